import Derived.WalkKit
import Derived.WalkSpells
import Derived.WalkLawsBesides
import Derived.Maps.AppendAt
import Derived.Deep.Draws
import Derived.Deep.AppendLies
import Derived.Lib.Hide
import Derived.Laws.Rows
import Derived.Laws.Tables
import Derived.Laws.CopyOwn
import Derived.Below
import Derived.ChangeKeysEq
import Derived.Laws.StructEq
import Derived.BigFrame
import Derived.WideKeyArr2
import Derived.OpenShut
import Derived.ChangeArms
import Derived.OrdersHeld
import Derived.Deep.RegionHeld
import Derived.Lib.LaidTab
import Derived.LaidLaws
import Derived.LaidHandle
namespace Go.Proofs.YtnpjecdodhkplaaGreatDoor
set_option maxRecDepth 100000
set_option linter.unusedSimpArgs false
open Go.RowKit
open List renaming setIfInBounds_toArray → yA, set_cons_zero → yB, set_cons_succ → yC
section
open Go.RowKit
structure Only (S : Nat → Prop) (w w' : World) : Prop where
 os : w'.os = w.os
 tape : w'.tape = w.tape
 output : w'.output = w.output
 size : w.heap.size ≤ w'.heap.size
 block : ∀ k, k < w.heap.size → ¬ S k → w'.heap[k]? = w.heap[k]?
section
variable {S T : Nat → Prop} {w w' w'' : World}
theorem Only.refl (S : Nat → Prop) (w : World) : Only S w w := ⟨rfl, rfl, rfl, Nat.le_refl _, fun _ _ _ => rfl⟩
theorem Only.trans (h : Only S w w') (h' : Only T w' w'') (hT : ∀ k, k < w.heap.size → T k → S k) : Only S w w'' :=
 ⟨h'.os.trans h.os, h'.tape.trans h.tape, h'.output.trans h.output, Nat.le_trans h.size h'.size,
  fun k hk hS => (h'.block k (Nat.lt_of_lt_of_le hk h.size) (fun t => hS (hT k hk t))).trans (h.block k hk hS)⟩
theorem Only.mono (h : Only S w w') (hT : ∀ k, k < w.heap.size → S k → T k) : Only T w w' :=
 ⟨h.os, h.tape, h.output, h.size, fun k hk hn => h.block k hk (fun s => hn (hT k hk s))⟩
theorem Only.of_below (h : Below w.heap.size w w') (S : Nat → Prop) : Only S w w' := ⟨h.os, h.tape, h.output, h.size, fun k hk _ => h.block k hk⟩
theorem Only.below (h : Only S w w') {B : Nat} (hB : B ≤ w.heap.size) (hS : ∀ k, S k → B ≤ k) : Below B w w' :=
 ⟨h.os, h.tape, h.output, h.size, fun k hk => h.block k (by omega) (fun s => by have := hS k s; omega)⟩
theorem Only.alloc (h : Only S w w') (o : Obj) : Only S w (w'.alloc o) :=
 h.trans (T := fun _ => False) ⟨rfl, rfl, rfl, by simp, fun k hk _ => Below.heap_alloc _ _ _ hk⟩ (fun _ _ f => f.elim)
theorem Only.drew (h : Only S w w') : Only S w w'.drew := ⟨h.os, h.tape, h.output, h.size, h.block⟩
theorem Only.drewN (h : Only S w w') (n : Nat) : Only S w (w'.drewN n) := ⟨h.os, h.tape, h.output, h.size, h.block⟩
theorem Only.setCell (h : Only S w w') {p : Addr} (hp : S p.block ∨ w.heap.size ≤ p.block) (u : Value) : Only S w (w'.setCell p u) :=
 h.trans (T := fun k => k = p.block) ⟨rfl, rfl, rfl, by simp, fun k hk hn => Below.heap_setCell _ _ _ _ hn⟩
  (fun k hk e => by subst e; rcases hp with hp | hp; exact hp; omega)
theorem Only.grown {row : Option Nat} (h : Only S w w') (hg : w'.grownBy w'' row) (hr : ∀ k, row = some k → S k ∨ w.heap.size ≤ k) : Only S w w'' :=
 h.trans (T := fun k => row = some k) ⟨hg.os, hg.tape, hg.output, hg.size, fun k hk hn => hg.block k hk (fun e => hn e.symm)⟩
  (fun k hk e => by rcases hr k e with hp | hp; exact hp; omega)
theorem Only.cell (h : Only S w w') {a : Addr} (hs : ¬ S a.block) (hl : a.block < w.heap.size) : w'.cell? a = w.cell? a := World.cell?_of_block (h.block _ hl hs)
theorem Only.frozen (h : Only S w w') {a : Addr} (hs : ¬ S a.block) (hl : a.block < w.heap.size) : w'.frozen? a = w.frozen? a := World.frozen?_of_block (h.block _ hl hs)
theorem lt_of_cell {a : Addr} {v : Value} (h : w.cell? a = some v) : a.block < w.heap.size := block_lt_of_cell h
end
theorem add_block (a : Addr) (n : Nat) : (a.add n).block = a.block := by unfold Addr.add; split <;> rfl
def Rd (w : World) (F : Nat → Prop) (a : Option Addr) (n : Nat) (xs : List Value) : Prop :=
 xs.length = n ∧ (0 < n → ∃ ad, a = some ad ∧ F ad.block ∧ ad.block < w.heap.size ∧ ∀ j u, xs[j]? = some u → w.cell? (ad.add j) = some u)
section
variable {w w' : World} {F S : Nat → Prop} {a : Option Addr} {n : Nat} {xs : List Value}
theorem Rd.at_ {k : Nat} (h : Rd w F a n xs) (hk : k < n) : ∃ ad u, a = some ad ∧ ad.block < w.heap.size ∧ xs[k]? = some u ∧ w.cell? (ad.add k) = some u := by
 obtain ⟨ad, e, _, hb, hc⟩ := h.2 (by omega)
 have hl : k < xs.length := by have := h.1; omega
 exact ⟨ad, xs[k], e, hb, List.getElem?_eq_getElem hl, hc k _ (List.getElem?_eq_getElem hl)⟩
theorem Rd.keep (h : Rd w F a n xs) (hs : w.heap.size ≤ w'.heap.size) (hk : ∀ k, F k → k < w.heap.size → w'.heap[k]? = w.heap[k]?) : Rd w' F a n xs :=
 ⟨h.1, fun hn => by
  obtain ⟨ad, e, hF, hb, hc⟩ := h.2 hn
  exact ⟨ad, e, hF, by omega, fun j u hu => (World.cell?_of_block (by rw [add_block]; exact hk _ hF hb)).trans (hc j u hu)⟩⟩
theorem Rd.only (h : Rd w F a n xs) (ho : Only S w w') (hd : ∀ k, F k → ¬ S k) : Rd w' F a n xs := h.keep ho.size fun k hF hk => ho.block k hk (hd k hF)
theorem Rd.below (h : Rd w F a n xs) {B : Nat} (hb : Below B w w') (hF : ∀ k, k < w.heap.size → F k → k < B) : Rd w' F a n xs := h.keep hb.size fun k hk hl => hb.block k (hF k hl hk)
theorem Rd.belowAll (h : Rd w F a n xs) (hb : Below w.heap.size w w') : Rd w' F a n xs := h.keep hb.size fun k _ hl => hb.block k hl
theorem Rd.mono (h : Rd w F a n xs) {G : Nat → Prop} (hG : ∀ k, k < w.heap.size → F k → G k) : Rd w G a n xs :=
 ⟨h.1, fun hn => by
  obtain ⟨ad, e, hF, hb, hc⟩ := h.2 hn
  exact ⟨ad, e, hG _ hb hF, hb, hc⟩⟩
theorem Rd.nil (w : World) (F : Nat → Prop) (a : Option Addr) : Rd w F a 0 [] := ⟨rfl, fun h => absurd h (by omega)⟩
theorem Rd.of_own {base : Nat} {e : TypeId} {c : Nat} (h : w.ownsRow base e 1 (.slice a n c) n xs) : Rd w (fun k => (Value.slice a n c).ownBlock = some k) a n xs := by
 refine ⟨by simpa using h.1, fun hn => ?_⟩
 obtain ⟨g, cap, hv, _, hlt⟩ := h.form hn
 have ha : a = some ⟨g, 0, none⟩ := by injection hv
 subst ha
 exact ⟨_, rfl, rfl, hlt, h.cells (g := g) rfl⟩
end
def Bs (l : List UInt8) : List Value := l.map fun c => .int .u8 (c.toNat : Int)
theorem Bs_length (l : List UInt8) : (Bs l).length = l.length := by simp [Bs]
theorem Bs_get (l : List UInt8) (k : Nat) : (Bs l)[k]? = l[k]?.map fun c => .int .u8 (c.toNat : Int) := by simp [Bs]
theorem Rd.byte {w : World} {F : Nat → Prop} {a : Option Addr} {n k : Nat} {l : List UInt8} (h : Rd w F a n (Bs l)) (hk : k < n) :
  ∃ ad c, a = some ad ∧ ad.block < w.heap.size ∧ l[k]? = some c ∧ w.cell? (ad.add k) = some (.int .u8 (c.toNat : Int)) := by
 obtain ⟨ad, u, e, hb, hu, hc⟩ := h.at_ hk
 rw [Bs_get] at hu
 cases hl : l[k]? with
 | none => rw [hl] at hu; cases hu
 | some c => rw [hl] at hu; cases hu; exact ⟨ad, c, e, hb, rfl, hc⟩
theorem Rd.len {w : World} {F : Nat → Prop} {a : Option Addr} {n : Nat} {l : List UInt8} (h : Rd w F a n (Bs l)) : l.length = n := by have := h.1; rwa [Bs_length] at this
theorem own_only {w w' : World} {S : Nat → Prop} {base : Nat} {e : TypeId} {size : Nat} {v : Value} {n : Nat} {xs : List Value} (h : w.ownsRow base e size v n xs) (ho : Only S w w') (hs : ∀ k, v.ownBlock = some k → ¬ S k) :
  w'.ownsRow base e size v n xs := by
 refine ⟨h.1, ?_⟩
 rcases h.2 with hn | ⟨g, cap, cur, rfl, hb, hg, r⟩
 ·exact .inl hn
 ·exact .inr ⟨g, cap, cur, rfl, hb, (ho.block g (Array.getElem?_eq_some_iff.1 hg).1 (hs g rfl)).trans hg, r⟩
theorem own_below {w w' : World} {base : Nat} {e : TypeId} {size : Nat} {v : Value} {n : Nat} {xs : List Value} (h : w.ownsRow base e size v n xs) (ho : Below w.heap.size w w') : w'.ownsRow base e size v n xs :=
 own_only h (Only.of_below ho (fun _ => False)) fun _ _ h => h
theorem own_base {w : World} {b b' : Nat} {e : TypeId} {size : Nat} {v : Value} {n : Nat} {xs : List Value} (h : w.ownsRow b e size v n xs) (hb : b' ≤ b) : w.ownsRow b' e size v n xs := by
 refine ⟨h.1, ?_⟩
 rcases h.2 with hn | ⟨g, cap, cur, rfl, hg, r⟩
 ·exact .inl hn
 ·exact .inr ⟨g, cap, cur, rfl, by omega, r⟩
theorem own_slice {w : World} {base : Nat} {e : TypeId} {v : Value} {n : Nat} {xs : List Value} (h : w.ownsRow base e 1 v n xs) : ∃ A c, v = .slice A n c := by
 rcases h.2 with ⟨rfl, rfl⟩ | ⟨g, cap, _, rfl, _⟩
 ·exact ⟨_, _, rfl⟩
 ·exact ⟨_, _, rfl⟩
theorem own_cap {w : World} {base : Nat} {e : TypeId} {A : Option Addr} {n c : Nat} {xs : List Value} (h : w.ownsRow base e 1 (.slice A n c) n xs) : xs.length ≤ c := by
 have h1 := h.1
 rcases h.2 with ⟨hv, rfl⟩ | ⟨g, cap, cur, hv, _, _, hn, _⟩
 ·omega
 ·injection hv with _ _ hc; omega
theorem Rd.lit (w : World) (xs : List Value) (cs : Array Value) (t : TypeId) (h : cs.toList = xs) (n : Nat) (hn : xs.length = n) : Rd (w.alloc (.cells cs t)) (fun k => k = w.heap.size) (some ⟨w.heap.size, 0, none⟩) n xs := by
 refine ⟨hn, fun _ => ⟨_, rfl, rfl, by simp, fun j u hu => ?_⟩⟩
 have e : (⟨w.heap.size, 0, none⟩ : Addr).add j = ⟨w.heap.size, j, none⟩ := by unfold Addr.add; split <;> simp_all
 rw [e, World.cell?_alloc_new, ← hu, ← h]
 simp
section
variable {P : Program} (w : World)
theorem append_nothing (base : Nat) (t ty e : TypeId) (i : TypeInfo) (ht : P.underlying t = some (.slice e)) (hi : P.info? e = some i)
  (v : Value) (n : Nat) (xs : List Value) (hown : w.ownsRow base e 1 v n xs) (c : Nat) : (Builtin.append_ #[t, t] ty #[v, .slice none 0 c]).run P w = .ok v w := by
 rcases hown.2 with ⟨rfl, rfl⟩ | ⟨g, cap, cur, rfl, _, _, hnc, _⟩
 ·simp [Builtin.append_, run_underlying ht, sizeOf, typeInfo, hi, Builtin.lenOf, Builtin.firstCells]
 ·simp [Builtin.append_, run_underlying ht, sizeOf, typeInfo, hi, Builtin.lenOf, Builtin.firstCells, hnc, storeCells]
theorem append_rd (base : Nat) (t ty e : TypeId) (i : TypeInfo) (z : Value) (bytes : Nat) (ht : P.underlying t = some (.slice e)) (hi : P.info? e = some i) (hz : i.zero = some z)
  (hsize : i.size = 1) (hby : i.bytes = bytes) (hzs : z.cells.size = 1)
  (v : Value) (n : Nat) (xs : List Value) (hown : w.ownsRow base e 1 v n xs)
  (F : Nat → Prop) (a : Option Addr) (m c : Nat) (news : List Value) (hr : Rd w F a m news) (h1 : ∀ u ∈ news, u.oneCell' = true)
  (h63 : n + m ≤ maxLen) (hbytes : (n + m) * bytes ≤ 140737488355328) (hbase : base ≤ w.heap.size) :
  ∃ v' w', (Builtin.append_ #[t, t] ty #[v, .slice a m c]).run P w = .ok v' w' ∧ w'.ownsRow base e 1 v' (n + m) (xs ++ news) ∧ w.grownBy w' v.ownBlock ∧
   (v'.ownBlock = v.ownBlock ∨ v'.ownBlock = some w.heap.size) := by
 obtain ⟨hlen, hcells⟩ := hr
 by_cases hm : m = 0
 ·subst hm
  obtain rfl : news = [] := List.eq_nil_of_length_eq_zero hlen
  rcases a with _ | ad
  ·exact ⟨v, w, append_nothing w base t ty e i ht hi v n xs hown c, by simpa using hown, World.grownBy.refl w _, .inl rfl⟩
  ·obtain ⟨v', w', hrun, h2, h3, _, h5⟩ := run_append_own_at (P := P) w base t ty e i z 1 bytes ht hi hz hsize hby hzs (by omega) v n xs hown ad 0 c [] rfl (by intro j u hu; simp at hu) h1 h63 hbytes hbase
   exact ⟨v', w', hrun, h2, h3, h5⟩
 ·obtain ⟨ad, rfl, _, _, hc⟩ := hcells (by omega)
  obtain ⟨v', w', hrun, h2, h3, _, h5⟩ := run_append_own_at (P := P) w base t ty e i z 1 bytes ht hi hz hsize hby hzs (by omega) v n xs hown ad m c news (by omega) hc h1 h63 hbytes hbase
  exact ⟨v', w', hrun, h2, h3, h5⟩
theorem wpList_append_rd {ops : Array Oper} {rest : List Oper} {o : Oper} {a : Act} {Q : Exit → Act → World → Prop} (hgd : o.guard = none) (s x : Operand) (t : TypeId)
  (ho : o.op = .call { callee := .builtin .append, args := #[s, x], argTypes := #[t, t] })
  (base : Nat) (e : TypeId) (i : TypeInfo) (z : Value) (bytes : Nat) (ht : P.underlying t = some (.slice e)) (hi : P.info? e = some i) (hz : i.zero = some z)
  (hsize : i.size = 1) (hby : i.bytes = bytes) (hzs : z.cells.size = 1)
  (v : Value) (n : Nat) (xs : List Value) (hs : a.eval s = v) (hown : w.ownsRow base e 1 v n xs)
  (F : Nat → Prop) (A : Option Addr) (m c : Nat) (news : List Value) (hx : a.eval x = .slice A m c) (hr : Rd w F A m news) (h1 : ∀ u ∈ news, u.oneCell' = true)
  (h63 : n + m ≤ maxLen) (hbytes : (n + m) * bytes ≤ 140737488355328) (hbase : base ≤ w.heap.size)
  (h : ∀ v' w', w'.ownsRow base e 1 v' (n + m) (xs ++ news) → w.grownBy w' v.ownBlock → (v'.ownBlock = v.ownBlock ∨ v'.ownBlock = some w.heap.size) → wpList P ops Q rest (a.put o.dst v') w') : wpList P ops Q (o :: rest) a w := by
 refine wpList_plain hgd fun _ hK => ?_
 obtain ⟨v', w', hrun, h2, h3, h4⟩ := append_rd (P := P) w base t o.type e i z bytes ht hi hz hsize hby hzs v n xs hown F A m c news hr h1 h63 hbytes hbase
 unfold Oper.wp execOp
 simp only [ho, resolve, invoke, builtin, Sem.run_bind, Sem.run_pure, Result.andThen_ok, List.map_toArray, List.map_cons, List.map_nil, hs, hx, hrun]
 exact hK _ _ (h v' w' h2 h3 h4)
end
end
section
open Go.RowKit
theorem below_drewN {B : Nat} {a w : World} (h : Below B a w) (n : Nat) : Below B a (w.drewN n) := ⟨h.os, h.tape, h.output, h.size, h.block⟩
def Row (w : World) (g : Nat) (T : TypeId) (l : List Value) : Prop := w.heap[g]? = some (.cells l.toArray T (0, 0))
section
variable {w w' : World} {g : Nat} {T : TypeId} {l : List Value}
theorem Row.lt (h : Row w g T l) : g < w.heap.size := (Array.getElem?_eq_some_iff.1 h).1
theorem Row.cell (h : Row w g T l) {k : Nat} {v : Value} (hk : l[k]? = some v) : w.cell? ⟨g, k, none⟩ = some v := by
 rw [cell_of_row w g k _ _ _ h, List.getElem?_toArray]; exact hk
theorem Row.free (h : Row w g T l) (k : Nat) : w.frozen? ⟨g, k, none⟩ = false := frozen_of_row w g k _ _ h
theorem Row.set (h : Row w g T l) (k : Nat) (v : Value) : Row (w.setCell ⟨g, k, none⟩ v) g T (l.set k v) := by
 unfold Row at h ⊢
 rw [heap_setCell_same w g _ _ _ _ h, List.setIfInBounds_toArray]
theorem Row.below {B : Nat} (h : Row w g T l) (hb : Below B w w') (hg : g < B) : Row w' g T l := (hb.block g hg).trans h
theorem Row.belowAll (h : Row w g T l) (hb : Below w.heap.size w w') : Row w' g T l := h.below hb h.lt
theorem Row.drewN (h : Row w g T l) (n : Nat) : Row (w.drewN n) g T l := h
theorem Row.only {S : Nat → Prop} (h : Row w g T l) (ho : Only S w w') (hs : ¬ S g) : Row w' g T l := (ho.block g h.lt hs).trans h
theorem Row.rd (h : Row w g T l) {n : Nat} (hn : l.length = n) : Rd w (fun k => k = g) (some ⟨g, 0, none⟩) n l :=
 ⟨hn, fun _ => ⟨_, rfl, rfl, h.lt, fun j u hu => by
  have e : (⟨g, 0, none⟩ : Addr).add j = ⟨g, j, none⟩ := by unfold Addr.add; split <;> simp_all
  rw [e]; exact h.cell hu⟩⟩
theorem Row.new (w : World) (l : List Value) (T : TypeId) : Row (w.alloc (.cells l.toArray T)) w.heap.size T l := heap_alloc_new _ _
theorem Row.alloc (h : Row w g T l) (o : Obj) : Row (w.alloc o) g T l := (Below.heap_alloc _ _ _ h.lt).trans h
theorem Row.setCell (h : Row w g T l) {p : Addr} (hp : g ≠ p.block) (v : Value) : Row (w.setCell p v) g T l := (Below.heap_setCell _ _ _ _ hp).trans h
end
def Tab (K : IntKind) (f : Nat → Nat) (n k : Nat) : List Value := (List.range n).map fun i => .int K ((if i < k then f i else 0 : Nat) : Int)
def Tabs (K : IntKind) (f : Nat → Nat) (n : Nat) : List Value := (List.range n).map fun i => .int K ((f i : Nat) : Int)
theorem Tab_length (K : IntKind) (f : Nat → Nat) (n k : Nat) : (Tab K f n k).length = n := by simp [Tab]
theorem Tabs_length (K : IntKind) (f : Nat → Nat) (n : Nat) : (Tabs K f n).length = n := by simp [Tabs]
theorem Tab_get (K : IntKind) (f : Nat → Nat) (n k : Nat) {j : Nat} (hj : j < n) : (Tab K f n k)[j]? = some (.int K ((if j < k then f j else 0 : Nat) : Int)) := by simp [Tab, hj]
theorem Tabs_get (K : IntKind) (f : Nat → Nat) (n : Nat) {j : Nat} (hj : j < n) : (Tabs K f n)[j]? = some (.int K ((f j : Nat) : Int)) := by simp [Tabs, hj]
theorem Tab_done (K : IntKind) (f : Nat → Nat) (n : Nat) : Tab K f n n = Tabs K f n := by
 unfold Tab Tabs
 refine List.map_congr_left fun i hi => ?_
 rw [if_pos (List.mem_range.1 hi)]
theorem Tab_zero (K : IntKind) (f : Nat → Nat) (n : Nat) : Tab K f n 0 = List.replicate n (.int K 0) := by
 unfold Tab
 refine List.ext_getElem? fun i => ?_
 by_cases h : i < n <;> simp [h]
theorem Tab_set (K : IntKind) (f : Nat → Nat) (n : Nat) {k : Nat} (hk : k < n) : (Tab K f n k).set k (.int K ((f k : Nat) : Int)) = Tab K f n (k + 1) := by
 refine List.ext_getElem? fun j => ?_
 by_cases hj : j < n
 ·rw [List.getElem?_set, Tab_get _ _ _ _ hj, Tab_get _ _ _ _ hj]
  by_cases e : k = j
  ·subst e; rw [if_pos rfl, if_pos (by rw [Tab_length]; exact hk), if_pos (by omega)]
  ·rw [if_neg e]
   by_cases h2 : j < k
   ·rw [if_pos h2, if_pos (by omega)]
   ·rw [if_neg h2, if_neg (by omega)]
 ·rw [List.getElem?_eq_none (by rw [List.length_set, Tab_length]; omega), List.getElem?_eq_none (by rw [Tab_length]; omega)]
theorem Tabs_one (K : IntKind) (f : Nat → Nat) (n : Nat) : (Tabs K f n).toArray.all (·.oneCell') = true := by
 rw [List.all_toArray, List.all_eq_true]
 intro v hv
 simp only [Tabs, List.mem_map] at hv
 obtain ⟨i, _, rfl⟩ := hv
 rfl
theorem Tabs_congr (K : IntKind) {f g : Nat → Nat} {n : Nat} (h : ∀ i, i < n → f i = g i) : Tabs K f n = Tabs K g n := by
 unfold Tabs
 refine List.map_congr_left fun i hi => ?_
 rw [h i (List.mem_range.1 hi)]
end
section
open Go.RowKit
section
variable {P : Program} (w : World)
theorem run_part_int {e : TypeId} {k : IntKind} (he : P.underlying e = some (.int k)) (xs : Array Value) (j : Nat) (v : Value) (h : xs[j]? = some v) : (part e xs j).run P w = .ok v w := by
 have hi : (isAgg e).run P w = .ok false w := by
  simp [isAgg, run_underlying he]
 simp [part, hi, h]
theorem run_eqItems_ints (d : Nat) {e : TypeId} {k : IntKind} (he : P.underlying e = some (.int k)) (xs ys : List Int) : ∀ (is : List Nat), (∀ i ∈ is, i < xs.length ∧ i < ys.length) →
  (Op.eqItems (d + 1) e 1 (xs.map (Value.int k)).toArray (ys.map (Value.int k)).toArray is).run P w = .ok (is.all fun i => xs[i]? == ys[i]?) w
 | [], _ => by simp [Op.eqItems]
 | i :: is, h => by
  obtain ⟨hx, hy⟩ := h i (by simp)
  have hr := run_eqItems_ints d he xs ys is (fun j hj => h j (by simp [hj]))
  have px := run_part_int w he (xs.map (Value.int k)).toArray i (.int k xs[i]) (by simp [hx])
  have py := run_part_int w he (ys.map (Value.int k)).toArray i (.int k ys[i]) (by simp [hy])
  have pe := run_equalIn_int w d e k k xs[i] ys[i] he
  simp only [Op.eqItems, Nat.mul_one, Sem.run_bind, px, py, pe, Result.andThen_ok, List.all_cons]
  rw [List.getElem?_eq_getElem hx, List.getElem?_eq_getElem hy]
  cases hb : (xs[i] == ys[i])
  ·simp_all
  ·simp_all
theorem run_equalIn_ints (d : Nat) {t e : TypeId} {n : Nat} {i : TypeInfo} {k : IntKind} (hu : P.underlying t = some (.array n e)) (hi : P.info? e = some i) (he : P.underlying e = some (.int k)) (hc : P.cellsOf e = 1)
  (xs ys : List Int) (hx : xs.length = n) (hy : ys.length = n) :
  (Op.equalIn (d + 2) t (.agg (xs.map (Value.int k)).toArray) (.agg (ys.map (Value.int k)).toArray)).run P w = .ok (decide (xs = ys)) w := by
 rw [show d + 2 = (d + 1) + 1 from rfl, run_equalIn_array w (d + 1) _ _ hu hi, hc, run_eqItems_ints w d he xs ys _ (fun i hi => by have := List.mem_range.1 hi; omega)]
 congr 1
 rw [Bool.eq_iff_iff, List.all_eq_true, decide_eq_true_iff]
 constructor
 ·intro h
  refine List.ext_getElem? fun i => ?_
  by_cases hin : i < n
  ·exact eq_of_beq (h i (List.mem_range.2 hin))
  ·rw [List.getElem?_eq_none (by omega), List.getElem?_eq_none (by omega)]
 ·rintro rfl i _
  simp
theorem run_eql_nats {t e : TypeId} {n : Nat} {i : TypeInfo} {k : IntKind} (hu : P.underlying t = some (.array n e)) (hi : P.info? e = some i) (he : P.underlying e = some (.int k)) (hc : P.cellsOf e = 1)
  (xs ys : List Nat) (hx : xs.length = n) (hy : ys.length = n) :
  (binOp .eql t (.agg (xs.map fun x => Value.int k ((x : Nat) : Int)).toArray) (.agg (ys.map fun x => Value.int k ((x : Nat) : Int)).toArray)).run P w = .ok (.bool (decide (xs = ys))) w := by
 have h := run_equalIn_ints w 9998 hu hi he hc (xs.map fun x : Nat => (x : Int)) (ys.map fun x : Nat => (x : Int)) (by simpa using hx) (by simpa using hy)
 rw [List.map_map, List.map_map] at h
 rw [run_eql_struct]
 have e1 : (Op.equalIn 10000 t (.agg (xs.map fun x => Value.int k ((x : Nat) : Int)).toArray) (.agg (ys.map fun x => Value.int k ((x : Nat) : Int)).toArray)).run P w = .ok (decide (xs.map (fun x : Nat => (x : Int)) = ys.map (fun x : Nat => (x : Int)))) w := h
 rw [e1]
 simp only [Result.andThen_ok]
 congr 2
 rw [Bool.eq_iff_iff, decide_eq_true_iff, decide_eq_true_iff]
 constructor
 ·intro h
  exact (List.map_inj_right (fun a b hab => by have : (a : Int) = b := hab; omega)).1 h
 ·rintro rfl; rfl
theorem run_neq_nats {t e : TypeId} {n : Nat} {i : TypeInfo} {k : IntKind} (hu : P.underlying t = some (.array n e)) (hi : P.info? e = some i) (he : P.underlying e = some (.int k)) (hc : P.cellsOf e = 1)
  (xs ys : List Nat) (hx : xs.length = n) (hy : ys.length = n) :
  (binOp .neq t (.agg (xs.map fun x => Value.int k ((x : Nat) : Int)).toArray) (.agg (ys.map fun x => Value.int k ((x : Nat) : Int)).toArray)).run P w = .ok (.bool (!decide (xs = ys))) w := by
 have h := run_eql_nats w hu hi he hc xs ys hx hy
 rw [run_eql_struct] at h
 rw [run_neq_struct]
 cases hr : (Op.equalIn 10000 t (.agg (xs.map fun x => Value.int k ((x : Nat) : Int)).toArray) (.agg (ys.map fun x => Value.int k ((x : Nat) : Int)).toArray)).run P w with
 | ok b w' =>
  rw [hr] at h
  simp only [Result.andThen_ok] at h ⊢
  injection h with h1 h2
  injection h1 with h1
  rw [h1, h2]
 | halt x w' => rw [hr] at h; simp [Result.andThen] at h
theorem wpList_binop {ops : Array Oper} {rest : List Oper} {o : Oper} {a : Act} {Q : Exit → Act → World → Prop} (op : BinOp) (T T2 : TypeId) (x y : Operand) (ho : o.op = .binOp op T x y T2) (hw : Region.wanted o (yielded ops a.tmps) = true)
  (u v r : Value) (hx : a.eval x = u) (hy : a.eval y = v) (hg : (eqGuard op T x y u v).run P w = .ok () w) (hb : (binOp op T u v).run P w = .ok r w) (h : wpList P ops Q rest (a.put o.dst r) w) : wpList P ops Q (o :: rest) a w := by
 refine BigFrame.wpList_want hw fun K hK => ?_
 unfold Oper.wp execOp
 simp only [ho, Sem.run_bind, Sem.run_pure, Result.andThen_ok, hx, hy, hg, hb]
 exact hK _ _ h
theorem Tabs_map (K : IntKind) (f : Nat → Nat) (n : Nat) : Tabs K f n = ((List.range n).map f).map fun x => Value.int K ((x : Nat) : Int) := by
 simp [Tabs]
end
end
section
open Go.RowKit Go.ChangeShapes Go.WideShapes
section
variable {H : Type} {enc : TypeId × Value → H} {P : Program} {t e : TypeId} {n : Nat} {q : IntKind} {W : World} {base : Nat} {sp : Nat → Bool} {held : Bool}
theorem trod_each (he : P.underlying e = some (.int q)) {m : Nat} {cs : List Value} : ∀ (L : List Nat) (xs : List (DataW H × List MemPlace)),
  L.mapM (fun i => DataW.trod enc P W base sp held m e ((cs.drop (i * 1)).take 1)) = some xs →
  ∃ zs : List Int, xs = zs.map (fun z => (.lit (.int q z), [])) ∧ (∀ z ∈ zs, (Lit.int q z).wf = true) ∧ L.map (fun i => (cs.drop (i * 1)).take 1) = zs.map fun z => [.int q z]
 | [], xs, h => by
  simp at h
  subst h
  exact ⟨[], rfl, by simp, rfl⟩
 | i :: L, xs, h => by
  rw [List.mapM_cons] at h
  simp only [bind, Option.bind_eq_some_iff, pure, Option.some.injEq] at h
  obtain ⟨y, hy, ys, hys, rfl⟩ := h
  obtain ⟨zs, rfl, hw, hl⟩ := trod_each he L ys hys
  obtain ⟨a, ea, rfl, wa⟩ := DataW.trod_int he hy
  refine ⟨a :: zs, rfl, fun z hz => ?_, ?_⟩
  ·rcases List.mem_cons.1 hz with rfl | hz
   ·exact wa
   ·exact hw z hz
  ·rw [List.map_cons, List.map_cons, hl, ea]
theorem open_ints_arr (hu : P.underlying t = some (.array n e)) (he : P.underlying e = some (.int q)) (hc : P.cellsOf e = 1) (hs : P.cellsOf t = n) {r : Reach} {b0 : Nat} {v : Value} (hv : Value.okWide P W r b0 t v)
  {d : DataW H} {ps : List MemPlace} (hd : DataW.Trod enc P W base sp held t v d ps) : ∃ zs : List Int, v = .agg (zs.map (Value.int q)).toArray ∧ zs.length = n ∧ ∀ z ∈ zs, (Lit.int q z).wf = true := by
 simp only [Value.okWide, hu] at hv
 obtain ⟨xs, rfl, hn, _⟩ := hv
 rw [hs] at hn
 obtain ⟨fuel, hf⟩ := hd
 cases fuel with
 | zero => simp [DataW.trod] at hf
 | succ m =>
  rw [DataW.trod_step] at hf
  unfold DataW.trodStep at hf
  simp only [hu, Value.cells] at hf
  rw [if_pos (by rw [hs]; simpa using hn)] at hf
  simp only [Option.map_eq_some_iff] at hf
  obtain ⟨ys, hy, _⟩ := hf
  rw [hc] at hy
  obtain ⟨zs, rfl, hw, hl⟩ := trod_each he _ ys hy
  have hlen : zs.length = n := by
   have := congrArg List.length hl
   simpa using this.symm
  refine ⟨zs, ?_, hlen, hw⟩
  congr 1
  have e1 : xs.toList = zs.map (Value.int q) := by
   refine List.ext_getElem? fun i => ?_
   by_cases hi : i < n
   ·have h1 := congrArg (fun l : List (List Value) => l[i]?) hl
    simp only [List.getElem?_map, List.getElem?_range hi, Option.map_some, Nat.mul_one] at h1
    have h2 : i < zs.length := by omega
    have h3 : i < xs.toList.length := by rw [Array.length_toList]; omega
    rw [List.getElem?_eq_getElem h2, Option.map_some] at h1
    have h4 := Option.some.inj h1
    rw [List.drop_eq_getElem_cons h3] at h4
    simp at h4
    rw [List.getElem?_map, List.getElem?_eq_getElem h2, List.getElem?_eq_getElem h3]
    simpa using h4
   ·rw [List.getElem?_eq_none (by rw [Array.length_toList]; omega), List.getElem?_eq_none (by rw [List.length_map]; omega)]
  rw [← e1]
end
end
theorem run_index_int {P : Program} (w : World) {t e : TypeId} {n : Nat} {i : TypeInfo} {k : IntKind} (hu : P.underlying t = some (.array n e)) (hi : P.info? e = some i) (hs : i.size = 1) (he : P.underlying e = some (.int k))
  (cs : Array Value) (j : Nat) (hj : j < n) (v : Value) (h : cs[j]? = some v) : (Instr.index t (.agg cs) (.int .i64 (j : Int))).run P w = .ok v w := by
 have hp := run_part_int w he cs j v h
 have hj' : (j : Int) < (n : Int) := by omega
 simp [Instr.index, run_underlying hu, asIntOf, hj, sizeOf, typeInfo, hi, hs, hp]
section
open Go.RowKit
section
variable {P : Program} {ops : Array Oper} {Q : Exit → Act → World → Prop} {S : World → Prop}
def Gives (P : Program) (S : World → Prop) (o : Oper) (v : Value) (a : Act) : Prop :=
 ∀ w, S w → ∀ K : Act → World → Prop, (∀ w', Below w.heap.size w w' → K (a.put o.dst v) w') → o.wp P a w K (fun _ _ _ => False)
theorem put_same {a a' : Act} {dst : Option Tmp} {u v : Value} (hs : ∀ d, dst = some d → d < a.tmps.size) (h : a.put dst u = a.put dst v) : a'.put dst u = a'.put dst v := by
 cases dst with
 | none => rfl
 | some d =>
  have h1 := congrArg (fun b : Act => b.tmps[d]?) h
  have hd := hs d rfl
  simp [Act.put, hd] at h1
  rw [h1]
theorem Gives.wp {o : Oper} {v : Value} {a a' : Act} (h : Gives P S o v a) (he : execOp a'.eval o = execOp a.eval o) (hs : ∀ d, o.dst = some d → d < a.tmps.size) {w : World} (hS : S w) :
  o.wp P a' w (fun a'' w' => a'' = a'.put o.dst v ∧ Below w.heap.size w w') Q := by
 have h1 := h w hS (fun a'' w' => a'' = a.put o.dst v ∧ Below w.heap.size w w') (fun w' hb => ⟨rfl, hb⟩)
 unfold Oper.wp at *
 rw [he]
 generalize (execOp a.eval o).run P w = r at *
 cases r with
 | ok n w' =>
  cases n <;> simp only [Oper.upon] at h1 ⊢
  case value u => exact ⟨put_same hs h1.1, h1.2⟩
  case skip => exact ⟨put_same hs h1.1, h1.2⟩
  case defer d =>
   exfalso
   have h2 := congrArg (fun b : Act => b.defers.length) h1.1
   cases hd : o.dst <;> simp [Act.put, hd] at h2
  case enter f args =>
   refine Calls.mono h1 fun e w'' he => ?_
   cases e with
   | returned u => exact ⟨put_same hs he.1, he.2⟩
   | panicked c => exact he.elim
   | outgrown => obtain ⟨_, _, hf⟩ := he; exact hf.elim
  case row row args => exact Rows.mono h1 fun u w'' he => ⟨put_same hs he.1, he.2⟩
 | halt x w' =>
  cases x <;> simp only [Oper.upon] at h1 ⊢
def dstOf (ops : Array Oper) (i : Nat) : Option Tmp := (ops[i]?).bind (·.dst)
structure Has (ops : Array Oper) (a0 : Act) (M : Nat → Value → Prop) (a : Act) : Prop where
 defers : a.defers = a0.defers
 size : a.tmps.size = a0.tmps.size
 there : ∀ t j u, M j u → dstOf ops j = some t → t < a0.tmps.size → a.tmps[t]? = some u
 else_ : ∀ t, (∀ j u, M j u → dstOf ops j ≠ some t) → a.tmps[t]? = a0.tmps[t]?
theorem Has.start (a0 : Act) : Has ops a0 (fun _ _ => False) a0 := ⟨rfl, rfl, fun _ _ _ h => h.elim, fun _ _ => rfl⟩
theorem Has.put {a0 a : Act} {M M' : Nat → Value → Prop} (h : Has ops a0 M a) {i : Nat} {v : Value} (hd : ∀ j u t, M j u → dstOf ops i = some t → dstOf ops j ≠ some t)
  (hM : ∀ j u, M' j u ↔ M j u ∨ (j = i ∧ u = v)) : Has ops a0 M' (a.put (dstOf ops i) v) := by
 cases hdi : dstOf ops i with
 | none =>
  refine ⟨h.defers, h.size, fun t j u hm hj ht => ?_, fun t ht => ?_⟩
  ·rcases (hM j u).1 hm with hm | ⟨rfl, rfl⟩
   ·exact h.there t j u hm hj ht
   ·rw [hdi] at hj; cases hj
  ·exact h.else_ t fun j u hm => ht j u ((hM j u).2 (.inl hm))
 | some d =>
  refine ⟨h.defers, by simp [Act.put, h.size], fun t j u hm hj ht => ?_, fun t ht => ?_⟩
  ·rcases (hM j u).1 hm with hm | ⟨rfl, rfl⟩
   ·have hne : d ≠ t := fun e => hd j u t hm (e ▸ hdi) hj
    simp only [Act.put, Array.getElem?_setIfInBounds_ne hne]
    exact h.there t j u hm hj ht
   ·rw [hdi] at hj
    cases hj
    simp [Act.put, h.size, ht]
  ·have hne : d ≠ t := fun e => ht i v ((hM i v).2 (.inr ⟨rfl, rfl⟩)) (e ▸ hdi)
   simp only [Act.put, Array.getElem?_setIfInBounds_ne hne]
   exact h.else_ t fun j u hm => ht j u ((hM j u).2 (.inl hm))
theorem Has.congr {a0 a b : Act} {M N : Nat → Value → Prop} (h : Has ops a0 M a) (k : Has ops a0 N b) {t : Nat}
  (ht : (∃ j u, M j u ∧ N j u ∧ dstOf ops j = some t) ∨ ((∀ j u, M j u → dstOf ops j ≠ some t) ∧ (∀ j u, N j u → dstOf ops j ≠ some t))) : a.tmps[t]? = b.tmps[t]? := by
 rcases ht with ⟨j, u, hm, hn, hj⟩ | ⟨hm, hn⟩
 ·rcases Nat.lt_or_ge t a0.tmps.size with hlt | hge
  ·rw [h.there t j u hm hj hlt, k.there t j u hn hj hlt]
  ·rw [Array.getElem?_eq_none (by rw [h.size]; exact hge), Array.getElem?_eq_none (by rw [k.size]; exact hge)]
 ·rw [h.else_ t hm, k.else_ t hn]
theorem Has.eq {a0 a b : Act} {M : Nat → Value → Prop} (h : Has ops a0 M a) (k : Has ops a0 M b) : a = b := by
 have ht : a.tmps = b.tmps := Array.ext_getElem? fun t => h.congr k (by
  by_cases he : ∃ j u, M j u ∧ dstOf ops j = some t
  ·obtain ⟨j, u, hm, hj⟩ := he
   exact .inl ⟨j, u, hm, hm, hj⟩
  ·have hn : ∀ j u, M j u → dstOf ops j ≠ some t := fun j u hm hj => he ⟨j, u, hm, hj⟩
   exact .inr ⟨hn, hn⟩)
 have hd : a.defers = b.defers := h.defers.trans k.defers.symm
 cases a; cases b
 simp only at ht hd
 subst ht hd
 rfl
theorem exec_same {o : Oper} (hs : ∀ cs b, o.op ≠ .select cs b) {a b : Act} (h : ∀ t, t ∈ o.looksAt ops → a.tmps[t]? = b.tmps[t]?) : execOp a.eval o = execOp b.eval o := by
 refine execOp_congr o hs fun x hx => ?_
 cases x with
 | tmp t =>
  have := h t (List.mem_append_left _ (List.mem_filterMap.2 ⟨.tmp t, by simpa using hx, rfl⟩))
  simp [Act.eval, this]
 | _ => rfl
theorem wanted_same {o : Oper} {a b : Act} (h : ∀ t, t ∈ o.looksAt ops → a.tmps[t]? = b.tmps[t]?) : Region.wanted o (yielded ops a.tmps) = Region.wanted o (yielded ops b.tmps) := by
 unfold Region.wanted
 cases hg : o.guard with
 | none => rfl
 | some gw =>
  obtain ⟨g, want⟩ := gw
  have hy : yielded ops a.tmps g = yielded ops b.tmps g := by
   unfold yielded
   cases ht : (ops[g]?).bind (·.dst) with
   | none => rfl
   | some t =>
    have := h t (by simp [Oper.looksAt, hg, ht])
    simp [this]
  simp only [hy]
def waits (ops : Array Oper) (y x : Nat) : Bool := ((ops[y]?).map fun o => o.after.any fun e => Region.binds .any e && e.on == x).getD false
theorem waits_spec {y x : Nat} {o : Oper} (ho : ops[y]? = some o) (h : waits ops y x = true) : ∃ e ∈ o.after, Region.binds .any e = true ∧ e.on = x := by
 simp only [waits, ho, Option.map_some, Option.getD_some] at h
 obtain ⟨e, he, hb⟩ := Array.any_eq_true'.1 h
 simp only [Bool.and_eq_true, beq_iff_eq] at hb
 exact ⟨e, he, hb.1, hb.2⟩
def looksOf (ops : Array Oper) (i : Nat) : List Tmp := ((ops[i]?).map (·.looksAt ops)).getD []
def dstsApart (ops : Array Oper) (i j : Nat) : Bool := match dstOf ops i with
 | some t => dstOf ops j != some t
 | none => true
def dstSeen (ops : Array Oper) (j i : Nat) : Bool := match dstOf ops j with
 | some t => (looksOf ops i).contains t
 | none => false
def detsOk (ops : Array Oper) (allocs : List Nat) : List Nat → Bool
 | [] => true
 | i :: r => (r.all fun j => j != i && dstsApart ops i j && (!dstSeen ops j i || waits ops j i) && (!dstSeen ops i j || waits ops j i)) && !dstSeen ops i i && (allocs.all fun k => k != i && dstsApart ops i k && !dstSeen ops k i) && detsOk ops allocs r
def allocsOk (ops : Array Oper) : List Nat → Bool
 | [] => true
 | i :: r => (r.all fun j => j != i && dstsApart ops i j) && allocsOk ops r
def lateOk (ops : Array Oper) (early late : List Nat) : Bool :=
 ((List.range ops.size).all fun i => (early.contains i != late.contains i)) &&
 ((List.range ops.size).all fun i => ((ops[i]?).map fun o => o.after.all fun e => !Region.binds .any e || decide (e.on < i)).getD false) &&
 (early.all fun i => decide (i < ops.size)) &&
 (late.all fun s => early.all fun x => waits ops s x || early.any fun y => decide (x < y) && waits ops y x)
inductive Dets (P : Program) (ops : Array Oper) (S : World → Prop) : List (Nat × Value) → Act → Act → Prop
 | nil {a : Act} : Dets P ops S [] a a
 | cons {i : Nat} {o : Oper} {v : Value} {vs : List (Nat × Value)} {a b : Act} (ho : ops[i]? = some o) (hw : Region.wanted o (yielded ops a.tmps) = true) (hg : Gives P S o v a)
   (hr : Dets P ops S vs (a.put o.dst v) b) : Dets P ops S ((i, v) :: vs) a b
 | skip {i : Nat} {o : Oper} {vs : List (Nat × Value)} {a b : Act} (ho : ops[i]? = some o) (hw : Region.wanted o (yielded ops a.tmps) = false)
   (hr : Dets P ops S vs (a.put o.dst undef) b) : Dets P ops S ((i, undef) :: vs) a b
def GivesAt (P : Program) (ops : Array Oper) (S : World → Prop) (o : Oper) (v : Value) (a : Act) : Prop :=
 (Region.wanted o (yielded ops a.tmps) = true ∧ Gives P S o v a) ∨ (Region.wanted o (yielded ops a.tmps) = false ∧ v = undef)
theorem Dets.all {a0 : Act} : ∀ {vs : List (Nat × Value)} {a b : Act} {M : Nat → Value → Prop} {allocs : List Nat}, Dets P ops S vs a b → Has ops a0 M a → detsOk ops allocs (vs.map (·.1)) = true →
  (∀ j u i v t, M j u → (i, v) ∈ vs → dstOf ops i = some t → dstOf ops j ≠ some t) → (∀ j u i v, M j u → (i, v) ∈ vs → dstSeen ops j i = true → waits ops i j = true) → (∀ j u i v, M j u → (i, v) ∈ vs → dstSeen ops i j = true → waits ops i j = true) →
  Has ops a0 (fun j u => M j u ∨ (j, u) ∈ vs) b ∧
  ∀ i v, (i, v) ∈ vs → ∃ (o : Oper) (ai : Act) (N : Nat → Value → Prop), ops[i]? = some o ∧ GivesAt P ops S o v ai ∧ Has ops a0 N ai ∧ (∀ j u, N j u → M j u ∨ (j, u) ∈ vs) ∧
   (∀ j u, N j u → dstSeen ops j i = true → waits ops i j = true) ∧ (∀ j u, (M j u ∨ (j, u) ∈ vs) → dstSeen ops j i = true → N j u ∨ waits ops j i = true) := by
 intro vs
 induction vs with
 | nil =>
  intro a b M allocs h hM _ _ _ _
  cases h
  exact ⟨⟨hM.defers, hM.size, fun t j u hm => hM.there t j u (hm.resolve_right (by simp)), fun t ht => hM.else_ t fun j u hm => ht j u (.inl hm)⟩, fun i v h => by cases h⟩
 | cons iv vs ih =>
  intro a b M allocs h hM hok hdst hseen hback
  obtain ⟨i, v⟩ := iv
  obtain ⟨o, ho, hg, hr⟩ : ∃ o, ops[i]? = some o ∧ GivesAt P ops S o v a ∧ Dets P ops S vs (a.put o.dst v) b := by
   cases h with
   | cons ho hw hg hr => exact ⟨_, ho, .inl ⟨hw, hg⟩, hr⟩
   | skip ho hw hr => exact ⟨_, ho, .inr ⟨hw, rfl⟩, hr⟩
  have hdo : dstOf ops i = o.dst := by simp [dstOf, ho]
  rw [List.map_cons] at hok
  simp only [detsOk, Bool.and_eq_true, List.all_eq_true] at hok
  obtain ⟨⟨⟨hrest, hself⟩, halloc⟩, hok'⟩ := hok
  have hrest' : ∀ j u, (j, u) ∈ vs → j ≠ i ∧ dstsApart ops i j = true ∧ (dstSeen ops j i = true → waits ops j i = true) ∧ (dstSeen ops i j = true → waits ops j i = true) := fun j u hj => by
   have h1 := hrest j (List.mem_map.2 ⟨(j, u), hj, rfl⟩)
   simp only [Bool.or_eq_true, Bool.not_eq_true', bne_iff_ne] at h1
   exact ⟨h1.1.1.1, h1.1.1.2, fun e => h1.1.2.resolve_left (by rw [e]; simp), fun e => h1.2.resolve_left (by rw [e]; simp)⟩
  have hself' : dstSeen ops i i = false := by simpa using hself
  have hap : ∀ j u t, (j, u) ∈ vs → dstOf ops i = some t → dstOf ops j ≠ some t := fun j u t hj ht => by
   have h1 := (hrest' j u hj).2.1
   simp only [dstsApart, ht, bne_iff_ne] at h1
   exact h1
  have hM' : Has ops a0 (fun j u => M j u ∨ (j = i ∧ u = v)) (a.put o.dst v) := hdo ▸ hM.put (fun j u t hm ht => hdst j u i v t hm (List.mem_cons_self ..) ht) (fun _ _ => Iff.rfl)
  have hih := ih hr hM' hok' (fun j u i' v' t hm hi' ht => by
    rcases hm with hm | ⟨rfl, rfl⟩
    ·exact hdst j u i' v' t hm (List.mem_cons_of_mem _ hi') ht
    ·exact fun e => hap i' v' t hi' e ht)
   (fun j u i' v' hm hi' he => by
    rcases hm with hm | ⟨rfl, rfl⟩
    ·exact hseen j u i' v' hm (List.mem_cons_of_mem _ hi') he
    ·exact (hrest' i' v' hi').2.2.2 he)
   (fun j u i' v' hm hi' he => by
    rcases hm with hm | ⟨rfl, rfl⟩
    ·exact hback j u i' v' hm (List.mem_cons_of_mem _ hi') he
    ·exact (hrest' i' v' hi').2.2.1 he)
  have hiff : ∀ j u, ((M j u ∨ (j = i ∧ u = v)) ∨ (j, u) ∈ vs) ↔ (M j u ∨ (j, u) ∈ (i, v) :: vs) := fun j u => by
   rw [List.mem_cons, Prod.mk.injEq, or_assoc]
  refine ⟨?_, fun i' v' hm => ?_⟩
  ·have h1 := hih.1
   exact ⟨h1.defers, h1.size, fun t j u hm => h1.there t j u ((hiff j u).2 hm), fun t ht => h1.else_ t fun j u hm => ht j u ((hiff j u).1 hm)⟩
  ·rcases List.mem_cons.1 hm with e | hm
   ·cases e
    refine ⟨o, a, M, ho, hg, hM, fun j u h => .inl h, fun j u h he => hseen j u i v h (List.mem_cons_self ..) he, fun j u h he => ?_⟩
    rcases h with h | h
    ·exact .inl h
    ·rcases List.mem_cons.1 h with e | h
     ·cases e; rw [hself'] at he; cases he
     ·exact .inr ((hrest' j u h).2.2.1 he)
   ·obtain ⟨o', ai, N, ho', hg', hN, hN1, hN2, hN3⟩ := hih.2 i' v' hm
    exact ⟨o', ai, N, ho', hg', hN, fun j u h => (hiff j u).1 (hN1 j u h), hN2, fun j u h he => hN3 j u ((hiff j u).2 h) he⟩
theorem dstSeen_of {j i : Nat} {o : Oper} (ho : ops[i]? = some o) {t : Nat} (ht : t ∈ o.looksAt ops) (hj : dstOf ops j = some t) : dstSeen ops j i = true := by
 simp only [dstSeen, hj, looksOf, ho, Option.map_some, Option.getD_some, List.contains_iff_mem]
 exact ht
theorem dstsApart_of {i j t : Nat} (h : dstsApart ops i j = true) (hi : dstOf ops i = some t) : dstOf ops j ≠ some t := by
 simp only [dstsApart, hi, bne_iff_ne] at h
 exact h
theorem detsOk_allocs {allocs : List Nat} : ∀ {l : List Nat}, detsOk ops allocs l = true → ∀ i ∈ l, ∀ k ∈ allocs, k ≠ i ∧ dstsApart ops i k = true ∧ dstSeen ops k i = false
 | [], _, _, h => by cases h
 | x :: r, hok, i, hi => by
  simp only [detsOk, Bool.and_eq_true, List.all_eq_true] at hok
  obtain ⟨⟨_, ha⟩, hr⟩ := hok
  rcases List.mem_cons.1 hi with rfl | hi
  ·intro k hk
   have := ha k hk
   simp only [Bool.not_eq_true', bne_iff_ne] at this
   exact ⟨this.1.1, this.1.2, this.2⟩
  ·exact detsOk_allocs hr i hi
theorem detsOk_apart {allocs : List Nat} : ∀ {l : List Nat}, detsOk ops allocs l = true → ∀ i ∈ l, ∀ j ∈ l, i ≠ j → ∀ t, dstOf ops i = some t → dstOf ops j ≠ some t
 | [], _, _, h => by cases h
 | x :: r, hok, i, hi => by
  simp only [detsOk, Bool.and_eq_true, List.all_eq_true] at hok
  obtain ⟨⟨⟨hx, _⟩, _⟩, hr⟩ := hok
  intro j hj hne t ht
  rcases List.mem_cons.1 hi with rfl | hi'
  ·rcases List.mem_cons.1 hj with rfl | hj'
   ·exact absurd rfl hne
   ·exact dstsApart_of (hx j hj').1.1.2 ht
  ·rcases List.mem_cons.1 hj with rfl | hj'
   ·intro e
    exact dstsApart_of (hx i hi').1.1.2 e ht
   ·exact detsOk_apart hr i hi' j hj' hne t ht
theorem detsOk_unique {allocs : List Nat} : ∀ {vs : List (Nat × Value)}, detsOk ops allocs (vs.map (·.1)) = true → ∀ {i : Nat} {u v : Value}, (i, u) ∈ vs → (i, v) ∈ vs → u = v
 | [], _, _, _, _, h, _ => by cases h
 | x :: r, hok, i, u, v, hu, hv => by
  rw [List.map_cons] at hok
  simp only [detsOk, Bool.and_eq_true, List.all_eq_true] at hok
  obtain ⟨⟨⟨hx, _⟩, _⟩, hr⟩ := hok
  have hne : ∀ y w, (y, w) ∈ r → y ≠ x.1 := fun y w hy => by
   have := (hx y (List.mem_map.2 ⟨(y, w), hy, rfl⟩)).1.1.1
   simpa using this
  rcases List.mem_cons.1 hu with e | hu'
  ·subst e
   rcases List.mem_cons.1 hv with e | hv'
   ·cases e; rfl
   ·exact absurd rfl (hne _ _ hv')
  ·rcases List.mem_cons.1 hv with e | hv'
   ·subst e; exact absurd rfl (hne _ _ hu')
   ·exact detsOk_unique hr hu' hv'
theorem allocsOk_apart : ∀ {l : List Nat}, allocsOk ops l = true → ∀ i ∈ l, ∀ j ∈ l, i ≠ j → ∀ t, dstOf ops i = some t → dstOf ops j ≠ some t
 | [], _, _, h => by cases h
 | x :: r, hok, i, hi => by
  simp only [allocsOk, Bool.and_eq_true, List.all_eq_true] at hok
  obtain ⟨hx, hr⟩ := hok
  intro j hj hne t ht
  rcases List.mem_cons.1 hi with rfl | hi'
  ·rcases List.mem_cons.1 hj with rfl | hj'
   ·exact absurd rfl hne
   ·exact dstsApart_of (hx j hj').2 ht
  ·rcases List.mem_cons.1 hj with rfl | hj'
   ·intro e
    exact dstsApart_of (hx i hi').2 e ht
   ·exact allocsOk_apart hr i hi' j hj' hne t ht
structure Made where
 op : Nat
 T : TypeId
 z : List Value
def AllocOp (P : Program) (ops : Array Oper) (m : Made) : Prop :=
 ∃ o, ops[m.op]? = some o ∧ o.guard = none ∧ ∀ (ρ : Operand → Value) w, (execOp ρ o).run P w = .ok (.value (.pointer (some ⟨w.heap.size, 0, none⟩))) (w.alloc (.cells m.z.toArray m.T))
theorem allocsOk_unique : ∀ {l : List Made}, allocsOk ops (l.map (·.op)) = true → ∀ m ∈ l, ∀ m' ∈ l, m.op = m'.op → m = m'
 | [], _, _, h => by cases h
 | x :: r, hok, m, hm => by
  rw [List.map_cons] at hok
  simp only [allocsOk, Bool.and_eq_true, List.all_eq_true] at hok
  obtain ⟨hx, hr⟩ := hok
  have hne : ∀ y ∈ r, y.op ≠ x.op := fun y hy => by
   have := (hx y.op (List.mem_map.2 ⟨y, hy, rfl⟩)).1
   simpa using this
  intro m' hm' he
  rcases List.mem_cons.1 hm with rfl | h1
  ·rcases List.mem_cons.1 hm' with rfl | h2
   ·rfl
   ·exact absurd he.symm (hne _ h2)
  ·rcases List.mem_cons.1 hm' with rfl | h2
   ·exact absurd he (hne _ h1)
   ·exact allocsOk_unique hr m h1 m' h2 he
def cnt (ops : Array Oper) (L : Array Bool) : Nat := (List.range ops.size).countP fun i => !L.getD i true
theorem countP_less {p q : Nat → Bool} {i : Nat} : ∀ (l : List Nat), l.Nodup → i ∈ l → p i = true → q i = false → (∀ j, j ≠ i → q j = p j) → l.countP q + 1 = l.countP p
 | [], _, h, _, _, _ => by cases h
 | x :: r, hn, hi, hp, hq, he => by
  rw [List.nodup_cons] at hn
  rcases List.mem_cons.1 hi with rfl | hi
  ·have : r.countP q = r.countP p := List.countP_congr fun j hj => by rw [he j (fun e => hn.1 (e ▸ hj))]
   simp [hp, hq, this]
  ·have ih := countP_less r hn.2 hi hp hq he
   have hx : x ≠ i := fun e => hn.1 (e ▸ hi)
   rw [List.countP_cons, List.countP_cons, he x hx]
   omega
theorem cnt_set {L : Array Bool} {i : Nat} (hi : i < ops.size) (hL : L.getD i true = false) (hs : L.size = ops.size) : cnt ops (L.setIfInBounds i true) + 1 = cnt ops L := by
 unfold cnt
 refine countP_less _ List.nodup_range (List.mem_range.2 hi) (by rw [hL]; rfl) ?_ fun j hj => by rw [getD_set_ne true (Ne.symm hj)]
 have : i < L.size := by omega
 simp [this]
theorem cnt_pos {L : Array Bool} {i : Nat} (hi : i < ops.size) (hL : L.getD i true = false) : 0 < cnt ops L :=
 List.countP_pos_iff.2 ⟨i, List.mem_range.2 hi, by rw [hL]; rfl⟩
theorem wpAny_more {md : Region.Mode} : ∀ (n : Nat) (L : Array Bool) (a : Act) (w : World), wpAny P md ops Q n L a w → wpAny P md ops Q (n + 1) L a w
 | 0, L, a, w, h => ⟨fun _ => h.2, fun i hi => by rw [h.1] at hi; cases hi⟩
 | n + 1, L, a, w, h => ⟨h.1, fun i hi => wpOp_mono (fun a' w' h' => wpAny_more n _ a' w' h') (h.2 i hi)⟩
theorem wpAny_le {md : Region.Mode} {n m : Nat} (h : n ≤ m) {L : Array Bool} {a : Act} {w : World} (hw : wpAny P md ops Q n L a w) : wpAny P md ops Q m L a w := by
 induction h with
 | refl => exact hw
 | step _ ih => exact wpAny_more _ _ _ _ ih
def lateL (ops : Array Oper) (late : List Nat) : Array Bool := (Array.range ops.size).map fun i => !late.contains i
def dstsIn (ops : Array Oper) (n : Nat) : Bool := (List.range ops.size).all fun i => match dstOf ops i with
 | some d => decide (d < n)
 | none => true
def putMade (ops : Array Oper) (gs : Nat → Nat) : List Made → Act → Act
 | [], a => a
 | m :: r, a => putMade ops gs r (a.put (dstOf ops m.op) (.pointer (some ⟨gs m.op, 0, none⟩)))
theorem Has.made {a0 : Act} {gs : Nat → Nat} : ∀ {made : List Made} {a : Act} {M : Nat → Value → Prop}, Has ops a0 M a → allocsOk ops (made.map (·.op)) = true → (∀ j u t, M j u → ∀ m ∈ made, dstOf ops m.op = some t → dstOf ops j ≠ some t) →
  Has ops a0 (fun j u => M j u ∨ ∃ m ∈ made, m.op = j ∧ u = .pointer (some ⟨gs j, 0, none⟩)) (putMade ops gs made a)
 | [], a, M, h, _, _ => ⟨h.defers, h.size, fun t j u hm => h.there t j u (hm.resolve_right fun ⟨m, hm, _⟩ => by cases hm), fun t ht => h.else_ t fun j u hm => ht j u (.inl hm)⟩
 | x :: r, a, M, h, hok, hd => by
  have hok0 := hok
  rw [List.map_cons] at hok
  simp only [allocsOk, Bool.and_eq_true, List.all_eq_true] at hok
  obtain ⟨hx, hr⟩ := hok
  have h1 : Has ops a0 (fun j u => M j u ∨ (j = x.op ∧ u = .pointer (some ⟨gs x.op, 0, none⟩))) (a.put (dstOf ops x.op) (.pointer (some ⟨gs x.op, 0, none⟩))) :=
   h.put (fun j u t hm ht => hd j u t hm x (List.mem_cons_self ..) ht) fun _ _ => Iff.rfl
  have h2 := Has.made (gs := gs) h1 hr (fun j u t hm m hmr ht => by
   rcases hm with hm | ⟨rfl, rfl⟩
   ·exact hd j u t hm m (List.mem_cons_of_mem _ hmr) ht
   ·intro e
    exact dstsApart_of (hx m.op (List.mem_map.2 ⟨m, hmr, rfl⟩)).2 e ht)
  have hiff : ∀ j u, ((M j u ∨ (j = x.op ∧ u = .pointer (some ⟨gs x.op, 0, none⟩))) ∨ ∃ m ∈ r, m.op = j ∧ u = .pointer (some ⟨gs j, 0, none⟩)) ↔ (M j u ∨ ∃ m ∈ x :: r, m.op = j ∧ u = .pointer (some ⟨gs j, 0, none⟩)) := fun j u => by
   constructor
   ·rintro ((h | ⟨rfl, rfl⟩) | ⟨m, hm, rfl, rfl⟩)
    ·exact .inl h
    ·exact .inr ⟨x, List.mem_cons_self .., rfl, rfl⟩
    ·exact .inr ⟨m, List.mem_cons_of_mem _ hm, rfl, rfl⟩
   ·rintro (h | ⟨m, hm, rfl, rfl⟩)
    ·exact .inl (.inl h)
    ·rcases List.mem_cons.1 hm with rfl | hm
     ·exact .inl (.inr ⟨rfl, rfl⟩)
     ·exact .inr ⟨m, hm, rfl, rfl⟩
  exact ⟨h2.defers, h2.size, fun t j u hm => h2.there t j u ((hiff j u).2 hm), fun t ht => h2.else_ t fun j u hm => ht j u ((hiff j u).1 hm)⟩
structure Stands (ops : Array Oper) (S : World → Prop) (B : Nat) (vs : List (Nat × Value)) (made : List Made) (late : List Nat) (a0 : Act) (gs : Nat → Nat) (L : Array Bool) (a : Act) (w : World) : Prop where
 has : Has ops a0 (fun j u => L.getD j false = true ∧ ((j, u) ∈ vs ∨ ∃ m ∈ made, m.op = j ∧ u = .pointer (some ⟨gs j, 0, none⟩))) a
 met : S w
 rows : ∀ m ∈ made, L.getD m.op false = true → B ≤ gs m.op ∧ Row w (gs m.op) m.T m.z
 apart : ∀ m ∈ made, ∀ m' ∈ made, L.getD m.op false = true → L.getD m'.op false = true → m.op ≠ m'.op → gs m.op ≠ gs m'.op
 late : ∀ s ∈ late, L.getD s true = false
 size : L.size = ops.size
 down : ∀ i o, ops[i]? = some o → L.getD i false = true → ∀ e ∈ o.after, Region.binds .any e = true → L.getD e.on false = true
theorem getD_tf {L : Array Bool} {i : Nat} (h : i < L.size) : L.getD i true = L.getD i false := by simp [h]
theorem flat_all {B : Nat} {vs : List (Nat × Value)} {made : List Made} {late : List Nat} {a0 aD : Act} {n : Nat}
  (hD : Dets P ops S vs a0 aD) (hA : ∀ m ∈ made, AllocOp P ops m) (hk1 : detsOk ops (made.map (·.op)) (vs.map (·.1)) = true) (hk2 : allocsOk ops (made.map (·.op)) = true)
  (hk3 : lateOk ops (vs.map (·.1) ++ made.map (·.op)) late = true) (hk4 : dstsIn ops a0.tmps.size = true) (hns : Region.noSelect ops = true) (hn : cnt ops (lateL ops late) = n)
  (hSB : ∀ w w', S w → Below w.heap.size w w' → S w') (hB : ∀ w, S w → B ≤ w.heap.size)
  (hend : ∀ (gs : Nat → Nat) w, S w → (∀ m ∈ made, B ≤ gs m.op ∧ Row w (gs m.op) m.T m.z) → (∀ m ∈ made, ∀ m' ∈ made, m.op ≠ m'.op → gs m.op ≠ gs m'.op) →
   wpAny P .any ops Q n (lateL ops late) (putMade ops gs made aD) w) :
  ∀ (fuel : Nat) (L : Array Bool) (a : Act) (w : World) (gs : Nat → Nat), Stands ops S B vs made late a0 gs L a w → cnt ops L ≤ fuel → wpAny P .any ops Q fuel L a w := by
 have hall := hD.all (a0 := a0) (M := fun _ _ => False) (Has.start a0) hk1 (fun _ _ _ _ _ h => h.elim) (fun _ _ _ _ h => h.elim) (fun _ _ _ _ h => h.elim)
 obtain ⟨hHD, hstep⟩ := hall
 simp only [lateOk, Bool.and_eq_true, List.all_eq_true, List.mem_range] at hk3
 obtain ⟨⟨⟨hcov, hord⟩, hlt⟩, hlate⟩ := hk3
 have hord' : ∀ i o, ops[i]? = some o → ∀ e ∈ o.after, Region.binds .any e = true → e.on < i := fun i o ho e he hb => by
  have h1 := hord i (Array.getElem?_eq_some_iff.1 ho).1
  simp only [ho, Option.map_some, Option.getD_some, Array.all_eq_true_iff_forall_mem] at h1
  have h2 := h1 e he
  simpa [hb] using h2
 have hlt' : ∀ i ∈ vs.map (·.1) ++ made.map (·.op), i < ops.size := fun i hi => by simpa using hlt i hi
 have hdone : ∀ (L : Array Bool) (a : Act) (w : World) (gs : Nat → Nat) (fuel : Nat), Stands ops S B vs made late a0 gs L a w → (∀ x ∈ vs.map (·.1) ++ made.map (·.op), L.getD x false = true) → cnt ops L ≤ fuel → wpAny P .any ops Q fuel L a w := by
  intro L a w gs fuel hI hfull hc
  have hL : L = lateL ops late := by
   refine Array.ext_getElem? fun i => ?_
   rcases Nat.lt_or_ge i ops.size with hi | hi
   ·have h1 := hcov i hi
    simp only [bne_iff_ne, ne_eq] at h1
    have h2 : L.getD i true = !late.contains i := by
     cases hc : late.contains i with
     | true => exact hI.late i (by simpa using hc)
     | false =>
      have he : (vs.map (·.1) ++ made.map (·.op)).contains i = true := by
       cases h3 : (vs.map (·.1) ++ made.map (·.op)).contains i with
       | true => rfl
       | false => exact absurd (h3.trans hc.symm) h1
      rw [getD_tf (by rw [hI.size]; exact hi)]
      exact hfull i (List.contains_iff_mem.1 he)
    have h4 : i < L.size := by rw [hI.size]; exact hi
    simp only [Array.getD_eq_getD_getElem?, Array.getElem?_eq_getElem h4, Option.getD_some] at h2
    rw [Array.getElem?_eq_getElem h4, h2]
    simp [lateL, hi]
   ·rw [Array.getElem?_eq_none (by rw [hI.size]; exact hi), Array.getElem?_eq_none (by simp [lateL]; exact hi)]
  have hin : ∀ m ∈ made, L.getD m.op false = true := fun m hm => hfull _ (List.mem_append_right _ (List.mem_map.2 ⟨m, hm, rfl⟩))
  have hrun := hend gs w hI.met (fun m hm => hI.rows m hm (hin m hm)) (fun m hm m' hm' hne => hI.apart m hm m' hm' (hin m hm) (hin m' hm') hne)
  have hfin : Has ops a0 (fun j u => (False ∨ (j, u) ∈ vs) ∨ ∃ m ∈ made, m.op = j ∧ u = .pointer (some ⟨gs j, 0, none⟩)) (putMade ops gs made aD) :=
   hHD.made hk2 fun j u t hj m hm ht => by
    have := detsOk_allocs hk1 j (List.mem_map.2 ⟨(j, u), hj.resolve_left id, rfl⟩) m.op (List.mem_map.2 ⟨m, hm, rfl⟩)
    intro e
    exact dstsApart_of this.2.1 e ht
  have hiff : ∀ j u, (L.getD j false = true ∧ ((j, u) ∈ vs ∨ ∃ m ∈ made, m.op = j ∧ u = .pointer (some ⟨gs j, 0, none⟩))) ↔ ((False ∨ (j, u) ∈ vs) ∨ ∃ m ∈ made, m.op = j ∧ u = .pointer (some ⟨gs j, 0, none⟩)) := fun j u => by
   rw [false_or]
   refine ⟨fun h => h.2, fun h => ⟨?_, h⟩⟩
   rcases h with h | ⟨m, hm, rfl, _⟩
   ·exact hfull j (List.mem_append_left _ (List.mem_map.2 ⟨(j, u), h, rfl⟩))
   ·exact hin m hm
  have ha : a = putMade ops gs made aD := by
   have h1 := hI.has
   exact Has.eq (M := fun j u => (False ∨ (j, u) ∈ vs) ∨ ∃ m ∈ made, m.op = j ∧ u = .pointer (some ⟨gs j, 0, none⟩))
    ⟨h1.defers, h1.size, fun t j u hm => h1.there t j u ((hiff j u).2 hm), fun t ht => h1.else_ t fun j u hm => ht j u ((hiff j u).1 hm)⟩ hfin
  subst hL
  rw [ha]
  exact wpAny_le (by omega) hrun
 have hnotdone : ∀ (L : Array Bool), L.size = ops.size → ¬ (∀ x ∈ vs.map (·.1) ++ made.map (·.op), L.getD x false = true) → ∃ x, x < ops.size ∧ L.getD x true = false := by
  intro L hs hfull
  obtain ⟨x, hx⟩ := Classical.not_forall.mp hfull
  obtain ⟨hx, hf⟩ := Classical.not_imp.mp hx
  have h1 := hlt' x hx
  exact ⟨x, h1, by rw [getD_tf (by rw [hs]; exact h1)]; simpa using hf⟩
 have hready : ∀ (L : Array Bool), L.size = ops.size → ∀ x, x < ops.size → L.getD x true = false → Region.ready .any ops L ≠ [] := by
  intro L hs x
  induction x using Nat.strongRecOn with
  | _ x ihx =>
   intro hx hu hnil
   by_cases hr : ∀ e ∈ (ops[x]'hx).after, Region.binds .any e = true → L.getD e.on false = true
   ·have : x ∈ Region.ready .any ops L := mem_ready.2 ⟨hu, ops[x], Array.getElem?_eq_getElem hx, hr⟩
    rw [hnil] at this
    cases this
   ·obtain ⟨e, he⟩ := Classical.not_forall.mp hr
    obtain ⟨he, hb⟩ := Classical.not_imp.mp he
    obtain ⟨hb, hf⟩ := Classical.not_imp.mp hb
    have h1 := hord' x _ (Array.getElem?_eq_getElem hx) e he hb
    have h2 : e.on < ops.size := by omega
    exact ihx e.on h1 h2 (by rw [getD_tf (by rw [hs]; exact h2)]; simpa using hf) hnil
 intro fuel
 induction fuel with
 | zero =>
  intro L a w gs hI hc
  by_cases hfull : ∀ x ∈ vs.map (·.1) ++ made.map (·.op), L.getD x false = true
  ·exact hdone L a w gs 0 hI hfull hc
  ·obtain ⟨x, h1, h2⟩ := hnotdone L hI.size hfull
   have := cnt_pos h1 h2
   omega
 | succ fuel ih =>
  intro L a w gs hI hc
  by_cases hfull : ∀ x ∈ vs.map (·.1) ++ made.map (·.op), L.getD x false = true
  ·exact hdone L a w gs (fuel + 1) hI hfull hc
  obtain ⟨x0, hx0, hu0⟩ := hnotdone L hI.size hfull
  refine ⟨fun h => absurd h (hready L hI.size x0 hx0 hu0), fun i hi => ?_⟩
  obtain ⟨hun, o, ho, hwait⟩ := mem_ready.1 hi
  have hisz : i < ops.size := (Array.getElem?_eq_some_iff.1 ho).1
  have hiL : i < L.size := by rw [hI.size]; exact hisz
  have hunf : L.getD i false = false := by rw [← getD_tf hiL]; exact hun
  have hdo : dstOf ops i = o.dst := by simp [dstOf, ho]
  have hnl : i ∉ late := by
   intro hl
   refine hfull ?_
   have hdown : ∀ k x, ops.size ≤ x + k → x ∈ vs.map (·.1) ++ made.map (·.op) → L.getD x false = true := by
    intro k
    induction k with
    | zero => intro x hk hx; have := hlt' x hx; omega
    | succ k ihk =>
     intro x hk hx
     have h1 := hlate i hl x hx
     rcases Bool.or_eq_true_iff.1 h1 with h1 | h1
     ·obtain ⟨e, he, hb, rfl⟩ := waits_spec ho h1
      exact hwait e he hb
     ·obtain ⟨y, hy, h2⟩ := List.any_eq_true.1 h1
      simp only [Bool.and_eq_true, decide_eq_true_eq] at h2
      have hyL := ihk y (by omega) hy
      have hys := hlt' y hy
      obtain ⟨e, he, hb, rfl⟩ := waits_spec (Array.getElem?_eq_getElem hys) h2.2
      exact hI.down y _ (Array.getElem?_eq_getElem hys) hyL e he hb
   exact fun x hx => hdown ops.size x (by omega) hx
  have hie : i ∈ vs.map (·.1) ++ made.map (·.op) := by
   have h1 := hcov i hisz
   simp only [bne_iff_ne, ne_eq] at h1
   have h2 : late.contains i = false := by simpa using hnl
   rw [h2] at h1
   cases h3 : (vs.map (·.1) ++ made.map (·.op)).contains i with
   | true => exact List.contains_iff_mem.1 h3
   | false => exact absurd h3 h1
  have hset : ∀ j, (L.setIfInBounds i true).getD j false = true ↔ L.getD j false = true ∨ j = i := fun j => by
   by_cases e : j = i
   ·subst e; simp [hiL]
   ·rw [getD_set_ne false (Ne.symm e)]; simp [e]
  have hlate' : ∀ s ∈ late, (L.setIfInBounds i true).getD s true = false := fun s hs => by
   have hne : i ≠ s := fun e => hnl (by rw [e]; exact hs)
   rw [getD_set_ne true hne]
   exact hI.late s hs
  have hdown' : ∀ j oj, ops[j]? = some oj → (L.setIfInBounds i true).getD j false = true → ∀ e ∈ oj.after, Region.binds .any e = true → (L.setIfInBounds i true).getD e.on false = true := fun j oj hoj hj e he hb => by
   rw [hset] at hj ⊢
   rcases hj with hj | rfl
   ·exact .inl (hI.down j oj hoj hj e he hb)
   ·rw [ho] at hoj; cases hoj
    exact .inl (hwait e he hb)
  have hcnt : cnt ops (L.setIfInBounds i true) ≤ fuel := by
   have := cnt_set hisz hun hI.size
   omega
  have hothers : ∀ j u t, (L.getD j false = true ∧ ((j, u) ∈ vs ∨ ∃ m ∈ made, m.op = j ∧ u = .pointer (some ⟨gs j, 0, none⟩))) → dstOf ops i = some t → dstOf ops j ≠ some t := by
   intro j u t ⟨hj, hju⟩ ht
   have hne : j ≠ i := fun e => by rw [e, hunf] at hj; cases hj
   rcases List.mem_append.1 hie with hiv | him
   ·rcases hju with hv | ⟨m, hm, rfl, _⟩
    ·exact detsOk_apart hk1 i hiv j (List.mem_map.2 ⟨(j, u), hv, rfl⟩) (Ne.symm hne) t ht
    ·exact dstsApart_of (detsOk_allocs hk1 i hiv m.op (List.mem_map.2 ⟨m, hm, rfl⟩)).2.1 ht
   ·rcases hju with hv | ⟨m, hm, rfl, _⟩
    ·intro e
     exact dstsApart_of (detsOk_allocs hk1 j (List.mem_map.2 ⟨(j, u), hv, rfl⟩) i him).2.1 e ht
    ·exact allocsOk_apart hk2 i him m.op (List.mem_map.2 ⟨m, hm, rfl⟩) (Ne.symm hne) t ht
  unfold wpOp
  simp only [ho]
  rcases List.mem_append.1 hie with hiv | him
  ·-- an operation that gives its value
   obtain ⟨⟨i', v⟩, hiv', rfl⟩ := List.mem_map.1 hiv
   simp only at *
   obtain ⟨o', ai, N, ho', hg, hN, hN1, hN2, hN3⟩ := hstep i' v hiv'
   rw [ho] at ho'
   cases ho'
   have hsame : ∀ t, t ∈ o.looksAt ops → a.tmps[t]? = ai.tmps[t]? := by
    intro t ht
    refine hI.has.congr hN ?_
    by_cases he : ∃ j u, N j u ∧ dstOf ops j = some t
    ·obtain ⟨j, u, hnj, hj⟩ := he
     have hw := hN2 j u hnj (dstSeen_of ho ht hj)
     obtain ⟨e, he, hb, rfl⟩ := waits_spec ho hw
     exact .inl ⟨_, u, ⟨hwait e he hb, .inl ((hN1 _ u hnj).resolve_left id)⟩, hnj, hj⟩
    ·have hno : ∀ j u, N j u → dstOf ops j ≠ some t := fun j u hm hj => he ⟨j, u, hm, hj⟩
     refine .inr ⟨fun j u hm hj => ?_, hno⟩
     obtain ⟨hjL, hju⟩ := hm
     have hsn := dstSeen_of ho ht hj
     rcases hju with hv | ⟨m, hm, rfl, _⟩
     ·rcases hN3 j u (.inr hv) hsn with h | h
      ·exact hno j u h hj
      ·have hjs : j < ops.size := hlt' j (List.mem_append_left _ (List.mem_map.2 ⟨(j, u), hv, rfl⟩))
       obtain ⟨e, he, hb, h1⟩ := waits_spec (Array.getElem?_eq_getElem hjs) h
       have := hI.down j _ (Array.getElem?_eq_getElem hjs) hjL e he hb
       rw [h1, hunf] at this
       cases this
     ·have := (detsOk_allocs hk1 i' hiv m.op (List.mem_map.2 ⟨m, hm, rfl⟩)).2.2
      rw [hsn] at this
      cases this
   have hhas : Has ops a0 (fun j u => (L.setIfInBounds i' true).getD j false = true ∧ ((j, u) ∈ vs ∨ ∃ m ∈ made, m.op = j ∧ u = .pointer (some ⟨gs j, 0, none⟩))) (a.put o.dst v) := by
    refine hdo ▸ hI.has.put hothers fun j u => ?_
    rw [hset]
    constructor
    ·rintro ⟨hj | rfl, hju⟩
     ·exact .inl ⟨hj, hju⟩
     ·rcases hju with hv | ⟨m, hm, he, _⟩
      ·exact .inr ⟨rfl, detsOk_unique hk1 hv hiv'⟩
      ·exact absurd he (detsOk_allocs hk1 j hiv m.op (List.mem_map.2 ⟨m, hm, rfl⟩)).1
    ·rintro (⟨hj, hju⟩ | ⟨rfl, rfl⟩)
     ·exact ⟨.inl hj, hju⟩
     ·exact ⟨.inr rfl, .inl hiv'⟩
   have hmk : ∀ m ∈ made, m.op ≠ i' := fun m hm => (detsOk_allocs hk1 i' hiv m.op (List.mem_map.2 ⟨m, hm, rfl⟩)).1
   have hnext : ∀ w', Below w.heap.size w w' → wpAny P .any ops Q fuel (L.setIfInBounds i' true) (a.put o.dst v) w' := fun w' hb => by
    refine ih _ _ w' gs ⟨hhas, hSB w w' hI.met hb, fun m hm hj => ?_, fun m hm m' hm' hj hj' => ?_, hlate', by simp [hI.size], hdown'⟩ hcnt
    ·have h1 := ((hset _).1 hj).resolve_right (hmk m hm)
     exact ⟨(hI.rows m hm h1).1, (hI.rows m hm h1).2.belowAll hb⟩
    ·exact hI.apart m hm m' hm' (((hset _).1 hj).resolve_right (hmk m hm)) (((hset _).1 hj').resolve_right (hmk m' hm'))
   rw [wanted_same hsame]
   rcases hg with ⟨hw, hg⟩ | ⟨hw, rfl⟩
   ·rw [if_pos hw]
    refine .inl ?_
    have hd : ∀ d, o.dst = some d → d < ai.tmps.size := fun d hd => by
     have h1 := (List.all_eq_true.1 hk4) i' (List.mem_range.2 hisz)
     rw [hdo, hd] at h1
     rw [hN.size]
     simpa using h1
    refine Oper.wp_mono (fun a' w' h => ?_) (hg.wp (Q := Q) (exec_same (Region.noSelect_spec hns i' o · · ho) hsame) hd hI.met)
    obtain ⟨rfl, hb⟩ := h
    exact hnext w' hb
   ·rw [if_neg (by rw [hw]; decide)]
    exact hnext w (Below.refl _ _)
  ·-- a new variable
   obtain ⟨m, hm, rfl⟩ := List.mem_map.1 him
   obtain ⟨o', ho', hgd, hrun⟩ := hA m hm
   rw [ho] at ho'
   cases ho'
   have hw : Region.wanted o (yielded ops a.tmps) = true := by simp [Region.wanted, hgd]
   rw [if_pos hw]
   refine .inl ?_
   unfold Oper.wp
   rw [hrun]
   show wpAny P .any ops Q fuel (L.setIfInBounds m.op true) (a.put o.dst (.pointer (some ⟨w.heap.size, 0, none⟩))) (w.alloc (.cells m.z.toArray m.T))
   have hb : Below w.heap.size w (w.alloc (.cells m.z.toArray m.T)) := (Below.refl _ _).alloc (Nat.le_refl _) _
   have hgs : ∀ j, j ≠ m.op → (fun j => if j = m.op then w.heap.size else gs j) j = gs j := fun j hj => if_neg hj
   have hne : ∀ j, L.getD j false = true → j ≠ m.op := fun j hj e => by rw [e, hunf] at hj; cases hj
   refine ih _ _ _ (fun j => if j = m.op then w.heap.size else gs j) ⟨?_, hSB w _ hI.met hb, fun m' hm' hj => ?_, fun m' hm' m'' hm'' hj hj' hnn => ?_, hlate', by simp [hI.size], hdown'⟩ hcnt
   ·refine hdo ▸ hI.has.put hothers fun j u => ?_
    rw [hset]
    constructor
    ·rintro ⟨hj | rfl, hju⟩
     ·left
      refine ⟨hj, ?_⟩
      rcases hju with hv | ⟨m', hm', rfl, he⟩
      ·exact .inl hv
      ·simp only [if_neg (hne _ hj)] at he
       exact .inr ⟨m', hm', rfl, he⟩
     ·right
      refine ⟨rfl, ?_⟩
      rcases hju with hv | ⟨m', hm', he0, he⟩
      ·exact absurd rfl (detsOk_allocs hk1 m.op (List.mem_map.2 ⟨(m.op, u), hv, rfl⟩) m.op him).1
      ·simpa using he
    ·rintro (⟨hj, hju⟩ | ⟨rfl, rfl⟩)
     ·refine ⟨.inl hj, ?_⟩
      rcases hju with hv | ⟨m', hm', rfl, he⟩
      ·exact .inl hv
      ·exact .inr ⟨m', hm', rfl, by simp only [if_neg (hne _ hj)]; exact he⟩
     ·exact ⟨.inr rfl, .inr ⟨m, hm, rfl, by simp⟩⟩
   ·rcases (hset _).1 hj with h1 | h1
    ·simp only [if_neg (hne _ h1)]
     exact ⟨(hI.rows m' hm' h1).1, (hI.rows m' hm' h1).2.belowAll hb⟩
    ·obtain rfl := allocsOk_unique hk2 m' hm' m hm h1
     simp only [if_true]
     exact ⟨hB w hI.met, Row.new w _ _⟩
   ·rcases (hset _).1 hj with h1 | h1 <;> rcases (hset _).1 hj' with h2 | h2
    ·simp only [if_neg (hne _ h1), if_neg (hne _ h2)]
     exact hI.apart m' hm' m'' hm'' h1 h2 hnn
    ·simp only [if_neg (hne _ h1), h2, if_true]
     have := (hI.rows m' hm' h1).2.lt
     omega
    ·simp only [if_neg (hne _ h2), h1, if_true]
     have := (hI.rows m'' hm'' h2).2.lt
     omega
    ·exact absurd (h1.trans h2.symm) hnn
theorem wp_flat {id : Nat} {B : Nat} {vs : List (Nat × Value)} {made : List Made} {late : List Nat} {a0 aD : Act} {w0 : World} {n : Nat} (hm : P.follows .mixedOrders = true) (hS : S w0.drew)
  (hD : Dets P ops S vs a0 aD) (hA : ∀ m ∈ made, AllocOp P ops m) (hk1 : detsOk ops (made.map (·.op)) (vs.map (·.1)) = true) (hk2 : allocsOk ops (made.map (·.op)) = true)
  (hk3 : lateOk ops (vs.map (·.1) ++ made.map (·.op)) late = true) (hk4 : dstsIn ops a0.tmps.size = true) (hns : Region.noSelect ops = true) (hn : cnt ops (lateL ops late) = n) (hk5 : late.all (fun s => decide (s < ops.size)) = true)
  (hSB : ∀ w w', S w → Below w.heap.size w w' → S w') (hB : ∀ w, S w → B ≤ w.heap.size)
  (hend : ∀ (gs : Nat → Nat) w, S w → (∀ m ∈ made, B ≤ gs m.op ∧ Row w (gs m.op) m.T m.z) → (∀ m ∈ made, ∀ m' ∈ made, m.op ≠ m'.op → gs m.op ≠ gs m'.op) →
   wpAny P .any ops Q n (lateL ops late) (putMade ops gs made aD) w) : (Code.region id ops true).wp P Q a0 w0 := by
 refine wp_region_any hm ?_
 have hnone : ∀ j, (Array.replicate ops.size false).getD j false = false := fun j => by
  by_cases h : j < ops.size <;> simp [h]
 refine flat_all hD hA hk1 hk2 hk3 hk4 hns hn hSB hB hend ops.size _ a0 _ (fun _ => 0) ⟨?_, hS, fun m _ h => ?_, fun m _ m' _ h => ?_, fun s hs => ?_, by simp, fun i o _ h => ?_⟩ ?_
 ·exact ⟨rfl, rfl, fun t j u h => (by rw [hnone] at h; cases h.1), fun _ _ => rfl⟩
 ·rw [hnone] at h; cases h
 ·rw [hnone] at h; cases h
 ·have h1 := (List.all_eq_true.1 hk5) s hs
  have h2 : s < ops.size := by simpa using h1
  simp [h2]
 ·rw [hnone] at h; cases h
 ·unfold cnt
  exact Nat.le_trans List.countP_le_length (by simp)
theorem wp_flat_none {id : Nat} {vs : List (Nat × Value)} {a0 aD : Act} {w0 : World} (hm : P.follows .mixedOrders = true) (hS : S w0.drew) (hSB : ∀ w w', S w → Below w.heap.size w w' → S w')
  (hD : Dets P ops S vs a0 aD) (hk : (detsOk ops [] (vs.map (·.1)) && lateOk ops (vs.map (·.1)) [] && dstsIn ops a0.tmps.size && Region.noSelect ops) = true)
  (hend : ∀ w, S w → Q .normal aD w) : (Code.region id ops true).wp P Q a0 w0 := by
 simp only [Bool.and_eq_true] at hk
 obtain ⟨⟨⟨k1, k3⟩, k4⟩, k5⟩ := hk
 refine wp_flat (B := 0) (made := []) (late := []) hm hS hD (fun m h => by cases h) k1 rfl (by simpa using k3) k4 k5 rfl rfl hSB (fun _ _ => Nat.zero_le _) fun gs w hS' _ _ => ?_
 have hr : Region.ready .any ops (lateL ops []) = [] := by
  refine List.eq_nil_iff_forall_not_mem.2 fun i hi => ?_
  obtain ⟨h1, o, ho, _⟩ := mem_ready.1 hi
  have h2 : i < ops.size := (Array.getElem?_eq_some_iff.1 ho).1
  simp [lateL, h2] at h1
 exact wpAny_le (Nat.zero_le _) ⟨hr, hend w hS'⟩
theorem all_listed {s : Nat} : Region.ready .any ops ((lateL ops [s]).setIfInBounds s true) = [] := by
 refine List.eq_nil_iff_forall_not_mem.2 fun i hi => ?_
 obtain ⟨h1, o, ho, _⟩ := mem_ready.1 hi
 have h2 : i < ops.size := (Array.getElem?_eq_some_iff.1 ho).1
 by_cases e : s = i
 ·subst e
  simp [lateL, h2] at h1
 ·rw [getD_set_ne true e] at h1
  have e' : ¬ i = s := fun x => e x.symm
  simp [lateL, h2, e'] at h1
theorem wpAny_late {s : Nat} {os : Oper} {a : Act} {w : World} (hr : Region.ready .any ops (lateL ops [s]) = [s]) (hos : ops[s]? = some os) (hgd : os.guard = none)
  (h : os.wp P a w (fun a' w' => Q .normal a' w') Q) : wpAny P .any ops Q 1 (lateL ops [s]) a w := by
 refine ⟨fun e => (by rw [hr] at e; cases e), fun i hi => ?_⟩
 rw [hr] at hi
 obtain rfl := List.mem_singleton.1 hi
 unfold wpOp
 simp only [hos]
 rw [if_pos (by simp [Region.wanted, hgd])]
 exact .inl (Oper.wp_mono (fun a' w' h' => ⟨all_listed, h'⟩) h)
theorem wp_flat_late {id : Nat} {vs : List (Nat × Value)} {a0 aD : Act} {w0 : World} {s : Nat} {os : Oper} (hm : P.follows .mixedOrders = true) (hS : S w0.drew) (hSB : ∀ w w', S w → Below w.heap.size w w' → S w')
  (hD : Dets P ops S vs a0 aD) (hk : (detsOk ops [] (vs.map (·.1)) && lateOk ops (vs.map (·.1)) [s] && dstsIn ops a0.tmps.size && Region.noSelect ops && (cnt ops (lateL ops [s]) == 1) && (Region.ready .any ops (lateL ops [s]) == [s])) = true)
  (hos : ops[s]? = some os) (hgd : os.guard = none) (hend : ∀ w, S w → os.wp P aD w (fun a' w' => Q .normal a' w') Q) : (Code.region id ops true).wp P Q a0 w0 := by
 simp only [Bool.and_eq_true, beq_iff_eq] at hk
 obtain ⟨⟨⟨⟨⟨k1, k3⟩, k4⟩, k5⟩, k6⟩, k7⟩ := hk
 have hsz : s < ops.size := (Array.getElem?_eq_some_iff.1 hos).1
 exact wp_flat (B := 0) (made := []) (late := [s]) hm hS hD (fun m h => by cases h) k1 rfl (by simpa using k3) k4 k5 k6 (by simpa using hsz) hSB (fun _ _ => Nat.zero_le _) fun gs w hS' _ _ => wpAny_late k7 hos hgd (hend w hS')
theorem wp_flat_new {id : Nat} {B : Nat} {vs : List (Nat × Value)} {a0 aD : Act} {w0 : World} {k s : Nat} {os : Oper} {T : TypeId} {z : List Value} (hm : P.follows .mixedOrders = true) (hS : S w0.drew) (hSB : ∀ w w', S w → Below w.heap.size w w' → S w') (hB : ∀ w, S w → B ≤ w.heap.size)
  (hD : Dets P ops S vs a0 aD) (hA : AllocOp P ops ⟨k, T, z⟩)
  (hk : (detsOk ops [k] (vs.map (·.1)) && lateOk ops (vs.map (·.1) ++ [k]) [s] && dstsIn ops a0.tmps.size && Region.noSelect ops && (cnt ops (lateL ops [s]) == 1) && (Region.ready .any ops (lateL ops [s]) == [s])) = true)
  (hos : ops[s]? = some os) (hgd : os.guard = none) (hend : ∀ g w, S w → B ≤ g → Row w g T z → os.wp P (aD.put (dstOf ops k) (.pointer (some ⟨g, 0, none⟩))) w (fun a' w' => Q .normal a' w') Q) : (Code.region id ops true).wp P Q a0 w0 := by
 simp only [Bool.and_eq_true, beq_iff_eq] at hk
 obtain ⟨⟨⟨⟨⟨k1, k3⟩, k4⟩, k5⟩, k6⟩, k7⟩ := hk
 have hsz : s < ops.size := (Array.getElem?_eq_some_iff.1 hos).1
 refine wp_flat (B := B) (made := [⟨k, T, z⟩]) (late := [s]) hm hS hD (fun m h => by rw [List.mem_singleton.1 h]; exact hA) k1 rfl k3 k4 k5 k6 (by simpa using hsz) hSB hB fun gs w hS' hrows _ => ?_
 have h1 := hrows ⟨k, T, z⟩ (List.mem_singleton.2 rfl)
 exact wpAny_late k7 hos hgd (hend _ w hS' h1.1 h1.2)
theorem exec_build1 {o : Oper} {a : Act} {w : World} (T : TypeId) (x : Operand) (ho : o.op = .build T #[(0, x)]) (u v : Value) (hx : a.eval x = u) (hrun : (Instr.build T #[(0, u)]).run P w = .ok v w) :
  (execOp a.eval o).run P w = .ok (.value v) w := by
 unfold execOp
 simp only [ho, Sem.run_bind, Sem.run_pure, List.map_toArray, List.map_cons, List.map_nil, hx, hrun, Result.andThen_ok]
theorem wpList_build1 {rest : List Oper} {o : Oper} {a : Act} {w : World} (hgd : o.guard = none) (T : TypeId) (x : Operand) (ho : o.op = .build T #[(0, x)]) (u v : Value) (hx : a.eval x = u)
  (hrun : (Instr.build T #[(0, u)]).run P w = .ok v w) (h : wpList P ops Q rest (a.put o.dst v) w) : wpList P ops Q (o :: rest) a w := by
 refine wpList_plain hgd fun _ hK => ?_
 unfold Oper.wp
 rw [exec_build1 T x ho u v hx hrun]
 exact hK _ _ h
end
end
section
open Go.RowKit
section
variable {P : Program} {S : World → Prop} {o : Oper} {a : Act}
theorem Gives.run {v : Value} (h : ∀ w, S w → (execOp a.eval o).run P w = .ok (.value v) w) : Gives P S o v a := by
 intro w hS K hK
 unfold Oper.wp
 rw [h w hS]
 exact hK w (Below.refl _ _)
theorem Gives.move {x : Operand} {v : Value} (ho : o.op = .move x) (hx : a.eval x = v) : Gives P S o v a :=
 Gives.run fun w _ => by unfold execOp; simp only [ho, hx, Sem.run_pure]
theorem Gives.assign {x : Operand} {v : Value} (ho : o.op = .assign x) (hx : a.eval x = v) : Gives P S o v a :=
 Gives.run fun w _ => by unfold execOp; simp only [ho, hx, Sem.run_pure]
theorem Gives.load_row (ty : TypeId) (x : Operand) (ho : o.op = .load ty x) (g : Nat) (hx : a.eval x = .pointer (some ⟨g, 0, none⟩)) (T : TypeId) (l : List Value) (hr : ∀ w, S w → Row w g T l) {d : TypeDesc}
  (hu : P.underlying ty = some d) (hd : (match d with | .struct _ | .array _ _ => true | _ => false) = true) (hi : (P.info? ty).map (·.size) = some l.toArray.size) : Gives P S o (.agg l.toArray) a :=
 fun w hS _ hK => wp_load_row ty x ho g hx T _ (0, 0) _ (hr w hS) hu hd hi (hK w (Below.refl _ _))
theorem Gives.load_any (ty : TypeId) (x : Operand) (ho : o.op = .load ty x) (g : Nat) (hx : a.eval x = .pointer (some ⟨g, 0, none⟩)) (l : List Value) (hr : ∀ w, S w → ∃ T, w.heap[g]? = some (.cells l.toArray T (0, 0))) {d : TypeDesc}
  (hu : P.underlying ty = some d) (hd : (match d with | .struct _ | .array _ _ => true | _ => false) = true) (hi : (P.info? ty).map (·.size) = some l.toArray.size) : Gives P S o (.agg l.toArray) a :=
 fun w hS _ hK => by
  obtain ⟨T, h⟩ := hr w hS
  exact wp_load_row ty x ho g hx T _ (0, 0) _ h hu hd hi (hK w (Below.refl _ _))
theorem Gives.call {f : FuncId} {fn : Func} {xs : List Operand} {ts : Array TypeId} {args : List Value} {v : Value} (ho : o.op = .call { callee := .value (.func f), args := xs.toArray, argTypes := ts })
  (hf : P.funcs[f]? = some fn) (hn : (fn.name == "runtime.NumGoroutine") = false) (hb : fn.body.isNone = false) (hargs : xs.map a.eval = args)
  (hc : ∀ w, S w → Calls P f args.toArray w fun e w' => e = .returned v ∧ Below w.heap.size w w') : Gives P S o v a := by
 intro w hS K hK
 have hrun : (execOp a.eval o).run P w = .ok (.enter f args.toArray) w := by
  have hn' : ¬ fn.name = "runtime.NumGoroutine" := by simpa using hn
  have hb' : ¬ fn.body = none := fun e => by rw [e] at hb; cases hb
  unfold execOp
  simp [ho, resolve, Act.eval, Deferred.ofValue, invoke, callFunc, hf, hn', hb', ← hargs]
 unfold Oper.wp
 rw [hrun]
 refine Calls.mono (hc w hS) fun e w' he => ?_
 obtain ⟨rfl, hbe⟩ := he
 exact hK w' hbe
theorem Gives.build1 (T : TypeId) (x : Operand) (ho : o.op = .build T #[(0, x)]) (u v : Value) (hx : a.eval x = u) (hrun : ∀ w, (Instr.build T #[(0, u)]).run P w = .ok v w) : Gives P S o v a :=
 Gives.run fun w _ => exec_build1 T x ho u v hx (hrun w)
theorem Gives.build0 (T : TypeId) (ho : o.op = .build T #[]) (v : Value) (hrun : ∀ w, (Instr.build T #[]).run P w = .ok v w) : Gives P S o v a :=
 Gives.run fun w _ => by unfold execOp; simp only [ho, Sem.run_bind, Sem.run_pure, List.map_toArray, List.map_nil, hrun, Result.andThen_ok]
theorem Gives.binop (op : BinOp) (T T2 : TypeId) (x y : Operand) (ho : o.op = .binOp op T x y T2) (u v r : Value) (hx : a.eval x = u) (hy : a.eval y = v)
  (hg : ∀ w, (eqGuard op T x y u v).run P w = .ok () w) (hb : ∀ w, (binOp op T u v).run P w = .ok r w) : Gives P S o r a :=
 Gives.run fun w _ => by
  unfold execOp
  simp only [ho, Sem.run_bind, Sem.run_pure, Result.andThen_ok, hx, hy, hg, hb]
theorem Gives.index (T : TypeId) (x y : Operand) (ho : o.op = .index T x y) (u v r : Value) (hx : a.eval x = u) (hy : a.eval y = v) (hi : ∀ w, (Instr.index T u v).run P w = .ok r w) : Gives P S o r a :=
 Gives.run fun w _ => by
  unfold execOp
  simp only [ho, Sem.run_bind, Sem.run_pure, Result.andThen_ok, hx, hy, hi]
theorem wp_call {Q : Exit → Act → World → Prop} {K : Act → World → Prop} {f : FuncId} {fn : Func} {xs : List Operand} {ts : Array TypeId} {args : List Value} {v : Value} {w : World} (ho : o.op = .call { callee := .value (.func f), args := xs.toArray, argTypes := ts })
  (hf : P.funcs[f]? = some fn) (hn : (fn.name == "runtime.NumGoroutine") = false) (hb : fn.body.isNone = false) (hargs : xs.map a.eval = args)
  (hc : Calls P f args.toArray w fun e w' => e = .returned v ∧ Below w.heap.size w w') (hK : ∀ w', Below w.heap.size w w' → K (a.put o.dst v) w') : o.wp P a w K Q := by
 have hrun : (execOp a.eval o).run P w = .ok (.enter f args.toArray) w := by
  have hn' : ¬ fn.name = "runtime.NumGoroutine" := by simpa using hn
  have hb' : ¬ fn.body = none := fun e => by rw [e] at hb; cases hb
  unfold execOp
  simp [ho, resolve, Act.eval, Deferred.ofValue, invoke, callFunc, hf, hn', hb', ← hargs]
 unfold Oper.wp
 rw [hrun]
 refine Calls.mono hc fun e w' he => ?_
 obtain ⟨rfl, hbe⟩ := he
 exact hK w' hbe
theorem wpList_build0 {ops : Array Oper} {rest : List Oper} {w : World} {Q : Exit → Act → World → Prop} (hgd : o.guard = none) (T : TypeId) (ho : o.op = .build T #[]) (v : Value) (hrun : (Instr.build T #[]).run P w = .ok v w)
  (h : wpList P ops Q rest (a.put o.dst v) w) : wpList P ops Q (o :: rest) a w := by
 refine wpList_plain hgd fun _ hK => ?_
 unfold Oper.wp execOp
 simp only [ho, Sem.run_bind, Sem.run_pure, List.map_toArray, List.map_nil, hrun, Result.andThen_ok]
 exact hK _ _ h
theorem wpList_index {ops : Array Oper} {rest : List Oper} {w : World} {Q : Exit → Act → World → Prop} (hgd : o.guard = none) (T : TypeId) (x y : Operand) (ho : o.op = .index T x y) (u v r : Value) (hx : a.eval x = u) (hy : a.eval y = v)
  (hi : (Instr.index T u v).run P w = .ok r w) (h : wpList P ops Q rest (a.put o.dst r) w) : wpList P ops Q (o :: rest) a w := by
 refine wpList_plain hgd fun _ hK => ?_
 unfold Oper.wp execOp
 simp only [ho, Sem.run_bind, Sem.run_pure, Result.andThen_ok, hx, hy, hi]
 exact hK _ _ h
theorem Dets.step {ops : Array Oper} {i : Nat} {v : Value} {vs : List (Nat × Value)} {b : Act} (d : Option Tmp) (ho : ops[i]? = some o) (hd : o.dst = d) (hw : Region.wanted o (yielded ops a.tmps) = true) (hg : Gives P S o v a)
  (hr : Dets P ops S vs (a.put d v) b) : Dets P ops S ((i, v) :: vs) a b := .cons ho hw hg (by rw [hd]; exact hr)
theorem Dets.s {ops : Array Oper} {i : Nat} {v : Value} {vs : List (Nat × Value)} {a' b : Act} (d : Tmp) (ho : ops[i]? = some o) (hg : Gives P S o v a)
  (hr : Dets P ops S vs a' b) (ha : a.put (some d) v = a' := by simp only [Act.put, yA, yB, yC]; rfl) (hd : o.dst = some d := by rfl)
  (hw : Region.wanted o (yielded ops a.tmps) = true := by kernel_rfl) : Dets P ops S ((i, v) :: vs) a b := .step (some d) ho hd hw hg (ha ▸ hr)
theorem Gives.c {f : FuncId} {fn : Func} {xs : List Operand} {ts : Array TypeId} {args : List Value} {v : Value} (ho : o.op = .call { callee := .value (.func f), args := xs.toArray, argTypes := ts })
  (hf : P.funcs[f]? = some fn) (hc : ∀ w, S w → Calls P f args.toArray w fun e w' => e = .returned v ∧ Below w.heap.size w w') (hn : (fn.name == "runtime.NumGoroutine") = false := by kernel_rfl) (hb : fn.body.isNone = false := by kernel_rfl) (hargs : xs.map a.eval = args := by rfl) : Gives P S o v a := .call ho hf hn hb hargs hc
theorem Gives.l (ty : TypeId) (x : Operand) (g : Nat) {l : List Value} (hr : ∀ w, S w → Row w g ty l) {d : TypeDesc} (hu : P.underlying ty = some d) (hi : (P.info? ty).map (·.size) = some l.toArray.size)
  (ho : o.op = .load ty x := by rfl) (hx : a.eval x = .pointer (some ⟨g, 0, none⟩) := by rfl) (hd : (match d with | .struct _ | .array _ _ => true | _ => false) = true := by rfl) : Gives P S o (.agg l.toArray) a := .load_row ty x ho g hx ty l hr hu hd hi
theorem Gives.indexAt (T : TypeId) (x y : Operand) (ho : o.op = .indexAddr T x y) (u v r : Value) (hx : a.eval x = u) (hy : a.eval y = v) (hi : ∀ w, (Instr.indexAt T u v).run P w = .ok r w) : Gives P S o r a :=
 Gives.run fun w _ => by
  unfold execOp
  simp only [ho, Sem.run_bind, Sem.run_pure, Result.andThen_ok, hx, hy, hi]
theorem Gives.fieldAt (T : TypeId) (x : Operand) (n : Nat) (ho : o.op = .fieldAddr T x n) (u r : Value) (hx : a.eval x = u) (hi : ∀ w, (Instr.fieldAt T u n).run P w = .ok r w) : Gives P S o r a :=
 Gives.run fun w _ => by
  unfold execOp
  simp only [ho, Sem.run_bind, Sem.run_pure, Result.andThen_ok, hx, hi]
theorem Gives.load (T : TypeId) (x : Operand) (ho : o.op = .load T x) (u r : Value) (hx : a.eval x = u) (hi : ∀ w, S w → (Instr.loadAt T u).run P w = .ok r w) : Gives P S o r a :=
 Gives.run fun w hS => by
  unfold execOp
  simp only [ho, Sem.run_bind, Sem.run_pure, Result.andThen_ok, hx, hi w hS]
theorem Gives.extract (x : Operand) (n : Nat) (ho : o.op = .extract x n) (u r : Value) (hx : a.eval x = u) (hi : ∀ w, (Instr.extract u n).run P w = .ok r w) : Gives P S o r a :=
 Gives.run fun w _ => by
  unfold execOp
  simp only [ho, Sem.run_bind, Sem.run_pure, Result.andThen_ok, hx, hi]
theorem Gives.unop (op : UnOp) (T : TypeId) (x : Operand) (ho : o.op = .unOp op T x) (u r : Value) (hx : a.eval x = u) (hi : ∀ w, (Op.unary op u).run P w = .ok r w) : Gives P S o r a :=
 Gives.run fun w _ => by
  unfold execOp
  simp only [ho, Sem.run_bind, Sem.run_pure, Result.andThen_ok, hx, hi]
theorem AllocOp.of {ops : Array Oper} {k : Nat} {T : TypeId} {z : List Value} (ho : ops[k]? = some o) (hg : o.guard = none) (hop : o.op = .alloc T)
  (hrun : ∀ w : World, (Instr.alloc T true (.tuple #[])).run P w = .ok (.pointer (some ⟨w.heap.size, 0, none⟩)) (w.alloc (.cells z.toArray T))) : AllocOp P ops ⟨k, T, z⟩ :=
 ⟨o, ho, hg, fun ρ w => by
  unfold execOp
  simp only [hop, Sem.run_bind, Sem.run_pure, hrun, Result.andThen_ok]⟩
theorem wp_flat_new_store {ops : Array Oper} {Q : Exit → Act → World → Prop} {id : Nat} {B : Nat} {vs : List (Nat × Value)} {a0 aD : Act} {w0 : World} {k s : Nat} {os : Oper} {T : TypeId} {z c : List Value} {x y : Operand} (hm : P.follows .mixedOrders = true) (hS : S w0.drew)
  (hSB : ∀ w w', S w → Below w.heap.size w w' → S w') (hSR : ∀ w g cs, S w → B ≤ g → S (w.setRow g cs)) (hB : ∀ w, S w → B ≤ w.heap.size) (hD : Dets P ops S vs a0 aD) (hA : AllocOp P ops ⟨k, T, z⟩)
  (hk : (detsOk ops [k] (vs.map (·.1)) && lateOk ops (vs.map (·.1) ++ [k]) [s] && dstsIn ops a0.tmps.size && Region.noSelect ops && (cnt ops (lateL ops [s]) == 1) && (Region.ready .any ops (lateL ops [s]) == [s])) = true)
  (hos : ops[s]? = some os) (hgd : os.guard = none) (d : Option Tmp) (hdk : dstOf ops k = d) (hst : os.op = .store T x y) (hdn : os.dst = none)
  (hx : ∀ g : Nat, (aD.put d (.pointer (some ⟨g, 0, none⟩))).eval x = .pointer (some ⟨g, 0, none⟩)) (hy : ∀ g : Nat, (aD.put d (.pointer (some ⟨g, 0, none⟩))).eval y = .agg c.toArray)
  (hi : (P.info? T).map (·.size) = some c.toArray.size) (hsz : z.toArray.size = c.toArray.size) (h1 : c.toArray.all (·.oneCell') = true)
  (hend : ∀ (g : Nat) w, S w → B ≤ g → Row w g T c → Q .normal (aD.put d (.pointer (some ⟨g, 0, none⟩))) w) : (Code.region id ops true).wp P Q a0 w0 := by
 refine wp_flat_new hm hS hSB hB hD hA hk hos hgd fun g w hS' hg hr => ?_
 rw [hdk]
 refine wp_store_row T x y hst g c.toArray (hx g) (hy g) T _ hr hi hsz h1 ?_
 rw [hdn]
 exact hend g _ (hSR _ _ _ hS' hg) hg (setRow_heap w g _ _ _ _ hr)
theorem wp_flat_store {ops : Array Oper} {Q : Exit → Act → World → Prop} {id : Nat} {vs : List (Nat × Value)} {a0 aD : Act} {w0 : World} {s : Nat} {os : Oper} {T T' : TypeId} {g : Nat} {z c : List Value} {x y : Operand} (hm : P.follows .mixedOrders = true) (hS : S w0.drew)
  (hSB : ∀ w w', S w → Below w.heap.size w w' → S w') (hD : Dets P ops S vs a0 aD)
  (hk : (detsOk ops [] (vs.map (·.1)) && lateOk ops (vs.map (·.1)) [s] && dstsIn ops a0.tmps.size && Region.noSelect ops && (cnt ops (lateL ops [s]) == 1) && (Region.ready .any ops (lateL ops [s]) == [s])) = true)
  (hos : ops[s]? = some os) (hgd : os.guard = none) (hst : os.op = .store T x y) (hdn : os.dst = none) (hx : aD.eval x = .pointer (some ⟨g, 0, none⟩)) (hy : aD.eval y = .agg c.toArray)
  (hr : ∀ w, S w → Row w g T' z) (hi : (P.info? T).map (·.size) = some c.toArray.size) (hsz : z.toArray.size = c.toArray.size) (h1 : c.toArray.all (·.oneCell') = true)
  (hend : ∀ w, S w → Q .normal aD (w.setRow g c.toArray)) : (Code.region id ops true).wp P Q a0 w0 := by
 refine wp_flat_late hm hS hSB hD hk hos hgd fun w hS' => ?_
 refine wp_store_row T x y hst g c.toArray hx hy T' _ (hr w hS') hi hsz h1 ?_
 rw [hdn]
 exact hend w hS'
theorem Gives.build5 (T : TypeId) (x0 x1 x2 x3 x4 : Operand) (ho : o.op = .build T #[(0, x0), (1, x1), (2, x2), (3, x3), (4, x4)]) (u0 u1 u2 u3 u4 v : Value) (h0 : a.eval x0 = u0) (h1 : a.eval x1 = u1) (h2 : a.eval x2 = u2) (h3 : a.eval x3 = u3) (h4 : a.eval x4 = u4)
  (hrun : ∀ w, (Instr.build T #[(0, u0), (1, u1), (2, u2), (3, u3), (4, u4)]).run P w = .ok v w) : Gives P S o v a :=
 Gives.run fun w _ => by
  unfold execOp
  simp only [ho, Sem.run_bind, Sem.run_pure, List.map_toArray, List.map_cons, List.map_nil, h0, h1, h2, h3, h4, hrun, Result.andThen_ok]
theorem S_trans {W a b : World} (h : Below W.heap.size W a) (k : Below a.heap.size a b) : Below W.heap.size W b := h.trans (k.mono h.size)
theorem S_row {W a : World} {g : Nat} (h : Below W.heap.size W a) (hg : W.heap.size ≤ g) (cs : Array Value) : Below W.heap.size W (a.setRow g cs) := below_setRow h hg cs
end
theorem tk {P : Program} {ops : Array Oper} {Q : Exit → Act → World → Prop} {S : World → Prop} (i d : Nat) {oi : Oper} {v : Value} {fuel : Nat} {listed : Array Bool} {a : Act} {w : World} (hi : ops[i]? = some oi) (hd : oi.dst = some d)
  (hc : (Region.noSelect ops && (Region.free .any ops listed i && (Region.ready .any ops listed).contains i)) = true)
  (hQ : ∀ c a w, Q (.panic c) (a.put oi.dst v) w → Q (.panic c) a w) (hg : Region.wanted oi (yielded ops a.tmps) = true) (hy : ∀ w, S w → (execOp a.eval oi).run P w = .ok (.value v) w) (hS : S w)
  (h : wpAnyH P .any ops Q S fuel (listed.setIfInBounds i true) (a.put (some d) v) w) : wpAnyH P .any ops Q S (fuel + 1) listed a w := by
 rw [Bool.and_eq_true, Bool.and_eq_true] at hc
 exact wpAnyH_take hi hc.1 hc.2.1 hc.2.2 hQ (Or.inl ⟨hg, hy⟩) hS (hd ▸ h)
def Ls (_ : List (Nat × Nat)) : Prop := True
theorem Ls.tl {x : Nat × Nat} {l : List (Nat × Nat)} (_ : Ls (x :: l)) : Ls l := trivial
theorem tkl {P : Program} {ops : Array Oper} {Q : Exit → Act → World → Prop} {S : World → Prop} {i d : Nat} {l : List (Nat × Nat)} (_ : Ls ((i, d) :: l)) {oi : Oper} {v : Value} {fuel : Nat} {listed : Array Bool} {a : Act} {w : World} (hi : ops[i]? = some oi) (hd : oi.dst = some d)
  (hc : (Region.noSelect ops && (Region.free .any ops listed i && (Region.ready .any ops listed).contains i)) = true)
  (hQ : ∀ c a w, Q (.panic c) (a.put oi.dst v) w → Q (.panic c) a w) (hg : Region.wanted oi (yielded ops a.tmps) = true) (hy : ∀ w, S w → (execOp a.eval oi).run P w = .ok (.value v) w) (hS : S w)
  (h : wpAnyH P .any ops Q S fuel (listed.setIfInBounds i true) (a.put (some d) v) w) : wpAnyH P .any ops Q S (fuel + 1) listed a w :=
 tk i d hi hd hc hQ hg hy hS h
end
section
open Go.RowKit
section
variable {P : Program} {ops : Array Oper} {Q : Exit → Act → World → Prop} {S : World → Prop}
structure Var where
 alloc : Option Nat
 blk : Nat
 T : TypeId
 z : List Value
 c : List Value
 st : Nat
def Var.g (gs : Nat → Nat) (v : Var) : Nat := match v.alloc with
 | some k => gs k
 | none => v.blk
def allocsOf (vars : List Var) : List Nat := vars.filterMap (·.alloc)
def storesOf (vars : List Var) : List Nat := vars.map (·.st)
theorem mem_allocs {vars : List Var} {v : Var} {k : Nat} (hv : v ∈ vars) (hk : v.alloc = some k) : k ∈ allocsOf vars := List.mem_filterMap.2 ⟨v, hv, hk⟩
def coverOk (ops : Array Oper) (early stores : List Nat) : Bool :=
 ((List.range ops.size).all fun i => early.contains i || stores.contains i) &&
 ((List.range ops.size).all fun i => ((ops[i]?).map fun o => o.after.all fun e => !Region.binds .any e || decide (e.on < i)).getD false) &&
 (early.all fun i => decide (i < ops.size) && !stores.contains i) && (stores.all fun i => decide (i < ops.size)) &&
 (stores.all fun s => early.all fun j => !dstSeen ops j s || waits ops s j)
def nodupOk : List Nat → Bool
 | [] => true
 | x :: r => !r.contains x && nodupOk r
theorem st_unique : ∀ {vars : List Var}, nodupOk (storesOf vars) = true → ∀ v ∈ vars, ∀ v' ∈ vars, v.st = v'.st → v = v'
 | [], _, _, h => by cases h
 | x :: r, hok, v, hv => by
  simp only [storesOf, List.map_cons, nodupOk, Bool.and_eq_true, Bool.not_eq_true'] at hok
  have hne : ∀ y ∈ r, y.st ≠ x.st := fun y hy e => by
   have : (r.map (·.st)).contains x.st = true := List.contains_iff_mem.2 (List.mem_map.2 ⟨y, hy, e⟩)
   rw [hok.1] at this; cases this
  intro v' hv' he
  rcases List.mem_cons.1 hv with rfl | h1
  ·rcases List.mem_cons.1 hv' with rfl | h2
   ·rfl
   ·exact absurd he.symm (hne _ h2)
  ·rcases List.mem_cons.1 hv' with rfl | h2
   ·exact absurd he (hne _ h1)
   ·exact st_unique hok.2 v h1 v' h2 he
theorem alloc_unique : ∀ {vars : List Var}, allocsOk ops (allocsOf vars) = true → ∀ v ∈ vars, ∀ v' ∈ vars, ∀ k, v.alloc = some k → v'.alloc = some k → v = v'
 | [], _, _, h => by cases h
 | x :: r, hok, v, hv => by
  intro v' hv' k hk hk'
  have hr : allocsOk ops (allocsOf r) = true ∧ ∀ y ∈ r, ∀ j, x.alloc = some j → y.alloc ≠ some j := by
   cases hx : x.alloc with
   | none =>
    have : allocsOf (x :: r) = allocsOf r := by simp [allocsOf, hx]
    rw [this] at hok
    exact ⟨hok, fun y _ j h => by cases h⟩
   | some j0 =>
    have : allocsOf (x :: r) = j0 :: allocsOf r := by simp [allocsOf, hx]
    rw [this] at hok
    simp only [allocsOk, Bool.and_eq_true, List.all_eq_true] at hok
    refine ⟨hok.2, fun y hy j h hyj => ?_⟩
    cases h
    have := (hok.1 j0 (mem_allocs hy hyj)).1
    simp at this
  rcases List.mem_cons.1 hv with rfl | h1
  ·rcases List.mem_cons.1 hv' with rfl | h2
   ·rfl
   ·exact absurd hk' (hr.2 v' h2 k hk)
  ·rcases List.mem_cons.1 hv' with rfl | h2
   ·exact absurd hk (hr.2 v h1 k hk')
   ·exact alloc_unique hr.1 v h1 v' h2 k hk hk'
def putVars (ops : Array Oper) (gs : Nat → Nat) : List Nat → Act → Act
 | [], a => a
 | k :: r, a => putVars ops gs r (a.put (dstOf ops k) (.pointer (some ⟨gs k, 0, none⟩)))
theorem Has.vars {a0 : Act} {gs : Nat → Nat} : ∀ {ks : List Nat} {a : Act} {M : Nat → Value → Prop}, Has ops a0 M a → allocsOk ops ks = true → (∀ j u t, M j u → ∀ k ∈ ks, dstOf ops k = some t → dstOf ops j ≠ some t) →
  Has ops a0 (fun j u => M j u ∨ (j ∈ ks ∧ u = .pointer (some ⟨gs j, 0, none⟩))) (putVars ops gs ks a)
 | [], a, M, h, _, _ => ⟨h.defers, h.size, fun t j u hm => h.there t j u (hm.resolve_right fun ⟨h, _⟩ => by cases h), fun t ht => h.else_ t fun j u hm => ht j u (.inl hm)⟩
 | x :: r, a, M, h, hok, hd => by
  simp only [allocsOk, Bool.and_eq_true, List.all_eq_true] at hok
  obtain ⟨hx, hr⟩ := hok
  have h1 : Has ops a0 (fun j u => M j u ∨ (j = x ∧ u = .pointer (some ⟨gs x, 0, none⟩))) (a.put (dstOf ops x) (.pointer (some ⟨gs x, 0, none⟩))) :=
   h.put (fun j u t hm ht => hd j u t hm x (List.mem_cons_self ..) ht) fun _ _ => Iff.rfl
  have h2 := Has.vars (gs := gs) h1 hr (fun j u t hm k hkr ht => by
   rcases hm with hm | ⟨rfl, rfl⟩
   ·exact hd j u t hm k (List.mem_cons_of_mem _ hkr) ht
   ·intro e
    exact dstsApart_of (hx k hkr).2 e ht)
  have hiff : ∀ j u, ((M j u ∨ (j = x ∧ u = .pointer (some ⟨gs x, 0, none⟩))) ∨ (j ∈ r ∧ u = .pointer (some ⟨gs j, 0, none⟩))) ↔ (M j u ∨ (j ∈ x :: r ∧ u = .pointer (some ⟨gs j, 0, none⟩))) := fun j u => by
   constructor
   ·rintro ((h | ⟨rfl, rfl⟩) | ⟨hm, rfl⟩)
    ·exact .inl h
    ·exact .inr ⟨List.mem_cons_self .., rfl⟩
    ·exact .inr ⟨List.mem_cons_of_mem _ hm, rfl⟩
   ·rintro (h | ⟨hm, rfl⟩)
    ·exact .inl (.inl h)
    ·rcases List.mem_cons.1 hm with rfl | hm
     ·exact .inl (.inr ⟨rfl, rfl⟩)
     ·exact .inr ⟨hm, rfl⟩
  exact ⟨h2.defers, h2.size, fun t j u hm => h2.there t j u ((hiff j u).2 hm), fun t ht => h2.else_ t fun j u hm => ht j u ((hiff j u).1 hm)⟩
def StoreOp (P : Program) (ops : Array Oper) (aF : (Nat → Nat) → Act) (v : Var) : Prop :=
 ∃ o T x y, ops[v.st]? = some o ∧ o.guard = none ∧ o.dst = none ∧ o.op = .store T x y ∧ (∀ gs, (aF gs).eval x = .pointer (some ⟨v.g gs, 0, none⟩)) ∧ (∀ gs, (aF gs).eval y = .agg v.c.toArray) ∧
  (P.info? T).map (·.size) = some v.c.toArray.size ∧ v.z.toArray.size = v.c.toArray.size ∧ v.c.toArray.all (·.oneCell') = true
structure StandsV (ops : Array Oper) (S : World → Prop) (B : Nat) (vs : List (Nat × Value)) (vars : List Var) (a0 : Act) (gs : Nat → Nat) (L : Array Bool) (a : Act) (w : World) : Prop where
 has : Has ops a0 (fun j u => L.getD j false = true ∧ ((j, u) ∈ vs ∨ (j ∈ allocsOf vars ∧ u = .pointer (some ⟨gs j, 0, none⟩)))) a
 met : S w
 new : ∀ v ∈ vars, ∀ k, v.alloc = some k → L.getD k false = true → B ≤ gs k
 rows : ∀ v ∈ vars, (∀ k, v.alloc = some k → L.getD k false = true) → Row w (v.g gs) v.T (if L.getD v.st false = true then v.c else v.z)
 apart : ∀ v ∈ vars, ∀ v' ∈ vars, (∀ k, v.alloc = some k → L.getD k false = true) → (∀ k, v'.alloc = some k → L.getD k false = true) → v.st ≠ v'.st → v.g gs ≠ v'.g gs
 size : L.size = ops.size
 down : ∀ i o, ops[i]? = some o → L.getD i false = true → ∀ e ∈ o.after, Region.binds .any e = true → L.getD e.on false = true
theorem vars_all {B : Nat} {vs : List (Nat × Value)} {vars : List Var} {a0 aD : Act}
  (hD : Dets P ops S vs a0 aD) (hA : ∀ v ∈ vars, ∀ k, v.alloc = some k → AllocOp P ops ⟨k, v.T, v.z⟩) (hS : ∀ v ∈ vars, StoreOp P ops (fun gs => putVars ops gs (allocsOf vars) aD) v)
  (hk1 : detsOk ops (allocsOf vars) (vs.map (·.1)) = true) (hk2 : allocsOk ops (allocsOf vars) = true)
  (hk3 : coverOk ops (vs.map (·.1) ++ allocsOf vars) (storesOf vars) = true) (hk4 : dstsIn ops a0.tmps.size = true) (hns : Region.noSelect ops = true) (hk5 : nodupOk (storesOf vars) = true)
  (hSB : ∀ w w', S w → Below w.heap.size w w' → S w') (hSR : ∀ w g cs, S w → (B ≤ g ∨ ∃ v ∈ vars, v.alloc = none ∧ v.blk = g) → S (w.setRow g cs)) (hB : ∀ w, S w → B ≤ w.heap.size)
  (hend : ∀ (gs : Nat → Nat) w, S w → (∀ v ∈ vars, ∀ k, v.alloc = some k → B ≤ gs k) → (∀ v ∈ vars, Row w (v.g gs) v.T v.c) → (∀ v ∈ vars, ∀ v' ∈ vars, v.st ≠ v'.st → v.g gs ≠ v'.g gs) →
   Q .normal (putVars ops gs (allocsOf vars) aD) w) :
  ∀ (fuel : Nat) (L : Array Bool) (a : Act) (w : World) (gs : Nat → Nat), StandsV ops S B vs vars a0 gs L a w → cnt ops L ≤ fuel → wpAny P .any ops Q fuel L a w := by
 have hall := hD.all (a0 := a0) (M := fun _ _ => False) (Has.start a0) hk1 (fun _ _ _ _ _ h => h.elim) (fun _ _ _ _ h => h.elim) (fun _ _ _ _ h => h.elim)
 obtain ⟨hHD, hstep⟩ := hall
 simp only [coverOk, Bool.and_eq_true, List.all_eq_true, List.mem_range] at hk3
 obtain ⟨⟨⟨⟨hcov, hord⟩, hlt⟩, hlts⟩, hseen⟩ := hk3
 have hord' : ∀ i o, ops[i]? = some o → ∀ e ∈ o.after, Region.binds .any e = true → e.on < i := fun i o ho e he hb => by
  have h1 := hord i (Array.getElem?_eq_some_iff.1 ho).1
  simp only [ho, Option.map_some, Option.getD_some, Array.all_eq_true_iff_forall_mem] at h1
  have h2 := h1 e he
  simpa [hb] using h2
 have hlt' : ∀ i ∈ vs.map (·.1) ++ allocsOf vars, i < ops.size := fun i hi => by simpa using (hlt i hi).1
 have hnst : ∀ i ∈ vs.map (·.1) ++ allocsOf vars, i ∉ storesOf vars := fun i hi hs => by
  have h1 := (hlt i hi).2
  rw [List.contains_iff_mem.2 hs] at h1
  cases h1
 have hcov' : ∀ i, i < ops.size → i ∈ vs.map (·.1) ++ allocsOf vars ∨ i ∈ storesOf vars := fun i hi => by
  rcases Bool.or_eq_true_iff.1 (hcov i hi) with h | h
  ·exact .inl (List.contains_iff_mem.1 h)
  ·exact .inr (List.contains_iff_mem.1 h)
 have hfin : ∀ gs : Nat → Nat, Has ops a0 (fun j u => (False ∨ (j, u) ∈ vs) ∨ (j ∈ allocsOf vars ∧ u = .pointer (some ⟨gs j, 0, none⟩))) (putVars ops gs (allocsOf vars) aD) := fun gs =>
  hHD.vars hk2 fun j u t hj k hk ht => by
   have := detsOk_allocs hk1 j (List.mem_map.2 ⟨(j, u), hj.resolve_left id, rfl⟩) k hk
   intro e
   exact dstsApart_of this.2.1 e ht
 have hready : ∀ (L : Array Bool), L.size = ops.size → ∀ x, x < ops.size → L.getD x true = false → Region.ready .any ops L ≠ [] := by
  intro L hs x
  induction x using Nat.strongRecOn with
  | _ x ihx =>
   intro hx hu hnil
   by_cases hr : ∀ e ∈ (ops[x]'hx).after, Region.binds .any e = true → L.getD e.on false = true
   ·have : x ∈ Region.ready .any ops L := mem_ready.2 ⟨hu, ops[x], Array.getElem?_eq_getElem hx, hr⟩
    rw [hnil] at this
    cases this
   ·obtain ⟨e, he⟩ := Classical.not_forall.mp hr
    obtain ⟨he, hb⟩ := Classical.not_imp.mp he
    obtain ⟨hb, hf⟩ := Classical.not_imp.mp hb
    have h1 := hord' x _ (Array.getElem?_eq_getElem hx) e he hb
    have h2 : e.on < ops.size := by omega
    exact ihx e.on h1 h2 (by rw [getD_tf (by rw [hs]; exact h2)]; simpa using hf) hnil
 have hdone : ∀ (L : Array Bool) (a : Act) (w : World) (gs : Nat → Nat), StandsV ops S B vs vars a0 gs L a w → (∀ x, x < ops.size → L.getD x true = true) → Q .normal a w := by
  intro L a w gs hI hfull
  have hf : ∀ x, x < ops.size → L.getD x false = true := fun x hx => by rw [← getD_tf (by rw [hI.size]; exact hx)]; exact hfull x hx
  have hin : ∀ v ∈ vars, ∀ k, v.alloc = some k → L.getD k false = true := fun v hv k hk => hf k (hlt' k (List.mem_append_right _ (mem_allocs hv hk)))
  have hst : ∀ v ∈ vars, L.getD v.st false = true := fun v hv => hf _ (by simpa using hlts v.st (List.mem_map.2 ⟨v, hv, rfl⟩))
  have hiff : ∀ j u, (L.getD j false = true ∧ ((j, u) ∈ vs ∨ (j ∈ allocsOf vars ∧ u = .pointer (some ⟨gs j, 0, none⟩)))) ↔ ((False ∨ (j, u) ∈ vs) ∨ (j ∈ allocsOf vars ∧ u = .pointer (some ⟨gs j, 0, none⟩))) := fun j u => by
   rw [false_or]
   refine ⟨fun h => h.2, fun h => ⟨?_, h⟩⟩
   rcases h with h | ⟨hm, _⟩
   ·exact hf j (hlt' j (List.mem_append_left _ (List.mem_map.2 ⟨(j, u), h, rfl⟩)))
   ·exact hf j (hlt' j (List.mem_append_right _ hm))
  have h1 := hI.has
  have ha : a = putVars ops gs (allocsOf vars) aD := Has.eq (M := fun j u => (False ∨ (j, u) ∈ vs) ∨ (j ∈ allocsOf vars ∧ u = .pointer (some ⟨gs j, 0, none⟩)))
   ⟨h1.defers, h1.size, fun t j u hm => h1.there t j u ((hiff j u).2 hm), fun t ht => h1.else_ t fun j u hm => ht j u ((hiff j u).1 hm)⟩ (hfin gs)
  rw [ha]
  exact hend gs w hI.met (fun v hv k hk => hI.new v hv k hk (hin v hv k hk)) (fun v hv => by have := hI.rows v hv (hin v hv); rwa [if_pos (hst v hv)] at this)
   (fun v hv v' hv' hne => hI.apart v hv v' hv' (hin v hv) (hin v' hv') hne)
 have hdec : ∀ (L : Array Bool), L.size = ops.size → (∀ x, x < ops.size → L.getD x true = true) ∨ ∃ x, x < ops.size ∧ L.getD x true = false := by
  intro L _
  by_cases h : ∀ x, x < ops.size → L.getD x true = true
  ·exact .inl h
  ·obtain ⟨x, hx⟩ := Classical.not_forall.mp h
   obtain ⟨hx, hf⟩ := Classical.not_imp.mp hx
   exact .inr ⟨x, hx, by simpa using hf⟩
 have hnil : ∀ (L : Array Bool), (∀ x, x < ops.size → L.getD x true = true) → Region.ready .any ops L = [] := fun L hf => by
  refine List.eq_nil_iff_forall_not_mem.2 fun i hi => ?_
  obtain ⟨h1, o, ho, _⟩ := mem_ready.1 hi
  rw [hf i (Array.getElem?_eq_some_iff.1 ho).1] at h1
  cases h1
 intro fuel
 induction fuel with
 | zero =>
  intro L a w gs hI hc
  rcases hdec L hI.size with hfull | ⟨x, h1, h2⟩
  ·exact ⟨hnil L hfull, hdone L a w gs hI hfull⟩
  ·have := cnt_pos h1 h2
   omega
 | succ fuel ih =>
  intro L a w gs hI hc
  rcases hdec L hI.size with hfull | ⟨x0, hx0, hu0⟩
  ·exact ⟨fun _ => hdone L a w gs hI hfull, fun i hi => by rw [hnil L hfull] at hi; cases hi⟩
  refine ⟨fun h => absurd h (hready L hI.size x0 hx0 hu0), fun i hi => ?_⟩
  obtain ⟨hun, o, ho, hwait⟩ := mem_ready.1 hi
  have hisz : i < ops.size := (Array.getElem?_eq_some_iff.1 ho).1
  have hiL : i < L.size := by rw [hI.size]; exact hisz
  have hunf : L.getD i false = false := by rw [← getD_tf hiL]; exact hun
  have hdo : dstOf ops i = o.dst := by simp [dstOf, ho]
  have hset : ∀ j, (L.setIfInBounds i true).getD j false = true ↔ L.getD j false = true ∨ j = i := fun j => by
   by_cases e : j = i
   ·subst e; simp [hiL]
   ·rw [getD_set_ne false (Ne.symm e)]; simp [e]
  have hdown' : ∀ j oj, ops[j]? = some oj → (L.setIfInBounds i true).getD j false = true → ∀ e ∈ oj.after, Region.binds .any e = true → (L.setIfInBounds i true).getD e.on false = true := fun j oj hoj hj e he hb => by
   rw [hset] at hj ⊢
   rcases hj with hj | rfl
   ·exact .inl (hI.down j oj hoj hj e he hb)
   ·rw [ho] at hoj; cases hoj
    exact .inl (hwait e he hb)
  have hcnt : cnt ops (L.setIfInBounds i true) ≤ fuel := by
   have := cnt_set hisz hun hI.size
   omega
  have hothers : ∀ j u t, i ∈ vs.map (·.1) ++ allocsOf vars → (L.getD j false = true ∧ ((j, u) ∈ vs ∨ (j ∈ allocsOf vars ∧ u = .pointer (some ⟨gs j, 0, none⟩)))) → dstOf ops i = some t → dstOf ops j ≠ some t := by
   intro j u t hie ⟨hj, hju⟩ ht
   have hne : j ≠ i := fun e => by rw [e, hunf] at hj; cases hj
   rcases List.mem_append.1 hie with hiv | him
   ·rcases hju with hv | ⟨hm, _⟩
    ·exact detsOk_apart hk1 i hiv j (List.mem_map.2 ⟨(j, u), hv, rfl⟩) (Ne.symm hne) t ht
    ·exact dstsApart_of (detsOk_allocs hk1 i hiv j hm).2.1 ht
   ·rcases hju with hv | ⟨hm, _⟩
    ·intro e
     exact dstsApart_of (detsOk_allocs hk1 j (List.mem_map.2 ⟨(j, u), hv, rfl⟩) i him).2.1 e ht
    ·exact allocsOk_apart hk2 i him j hm (Ne.symm hne) t ht
  unfold wpOp
  simp only [ho]
  rcases hcov' i hisz with hie | his
  ·have hni : ∀ v ∈ vars, v.st ≠ i := fun v hv e => hnst i hie (e ▸ List.mem_map.2 ⟨v, hv, rfl⟩)
   have hkeep : ∀ v ∈ vars, (L.setIfInBounds i true).getD v.st false = L.getD v.st false := fun v hv => getD_set_ne false (Ne.symm (hni v hv))
   rcases List.mem_append.1 hie with hiv | him
   ·-- an operation that gives its value
    obtain ⟨⟨i', v⟩, hiv', rfl⟩ := List.mem_map.1 hiv
    simp only at *
    obtain ⟨o', ai, N, ho', hg, hN, hN1, hN2, hN3⟩ := hstep i' v hiv'
    rw [ho] at ho'
    cases ho'
    have hsame : ∀ t, t ∈ o.looksAt ops → a.tmps[t]? = ai.tmps[t]? := by
     intro t ht
     refine hI.has.congr hN ?_
     by_cases he : ∃ j u, N j u ∧ dstOf ops j = some t
     ·obtain ⟨j, u, hnj, hj⟩ := he
      have hw := hN2 j u hnj (dstSeen_of ho ht hj)
      obtain ⟨e, he, hb, rfl⟩ := waits_spec ho hw
      exact .inl ⟨_, u, ⟨hwait e he hb, .inl ((hN1 _ u hnj).resolve_left id)⟩, hnj, hj⟩
     ·have hno : ∀ j u, N j u → dstOf ops j ≠ some t := fun j u hm hj => he ⟨j, u, hm, hj⟩
      refine .inr ⟨fun j u hm hj => ?_, hno⟩
      obtain ⟨hjL, hju⟩ := hm
      have hsn := dstSeen_of ho ht hj
      rcases hju with hv | ⟨hm, _⟩
      ·rcases hN3 j u (.inr hv) hsn with h | h
       ·exact hno j u h hj
       ·have hjs : j < ops.size := hlt' j (List.mem_append_left _ (List.mem_map.2 ⟨(j, u), hv, rfl⟩))
        obtain ⟨e, he, hb, h1⟩ := waits_spec (Array.getElem?_eq_getElem hjs) h
        have := hI.down j _ (Array.getElem?_eq_getElem hjs) hjL e he hb
        rw [h1, hunf] at this
        cases this
      ·have := (detsOk_allocs hk1 i' hiv j hm).2.2
       rw [hsn] at this
       cases this
    have hmk : ∀ k ∈ allocsOf vars, k ≠ i' := fun k hk => (detsOk_allocs hk1 i' hiv k hk).1
    have hhas : Has ops a0 (fun j u => (L.setIfInBounds i' true).getD j false = true ∧ ((j, u) ∈ vs ∨ (j ∈ allocsOf vars ∧ u = .pointer (some ⟨gs j, 0, none⟩)))) (a.put o.dst v) := by
     refine hdo ▸ hI.has.put (fun j u t hm ht => hothers j u t hie hm ht) fun j u => ?_
     rw [hset]
     constructor
     ·rintro ⟨hj | rfl, hju⟩
      ·exact .inl ⟨hj, hju⟩
      ·rcases hju with hv | ⟨hm, _⟩
       ·exact .inr ⟨rfl, detsOk_unique hk1 hv hiv'⟩
       ·exact absurd rfl (hmk j hm)
     ·rintro (⟨hj, hju⟩ | ⟨rfl, rfl⟩)
      ·exact ⟨.inl hj, hju⟩
      ·exact ⟨.inr rfl, .inl hiv'⟩
    have hback : ∀ v ∈ vars, (∀ k, v.alloc = some k → (L.setIfInBounds i' true).getD k false = true) → ∀ k, v.alloc = some k → L.getD k false = true := fun v hv h k hk => ((hset _).1 (h k hk)).resolve_right (hmk k (mem_allocs hv hk))
    have hnext : ∀ w', Below w.heap.size w w' → wpAny P .any ops Q fuel (L.setIfInBounds i' true) (a.put o.dst v) w' := fun w' hb => by
     refine ih _ _ w' gs ⟨hhas, hSB w w' hI.met hb, fun v hv k hk hj => hI.new v hv k hk (((hset _).1 hj).resolve_right (hmk k (mem_allocs hv hk))), fun v hv hj => ?_, fun v hv v' hv' hj hj' => hI.apart v hv v' hv' (hback v hv hj) (hback v' hv' hj'), by simp [hI.size], hdown'⟩ hcnt
     rw [hkeep v hv]
     exact (hI.rows v hv (hback v hv hj)).belowAll hb
    rw [wanted_same hsame]
    rcases hg with ⟨hw, hg⟩ | ⟨hw, rfl⟩
    ·rw [if_pos hw]
     refine .inl ?_
     have hd : ∀ d, o.dst = some d → d < ai.tmps.size := fun d hd => by
      have h1 := (List.all_eq_true.1 hk4) i' (List.mem_range.2 hisz)
      rw [hdo, hd] at h1
      rw [hN.size]
      simpa using h1
     refine Oper.wp_mono (fun a' w' h => ?_) (hg.wp (Q := Q) (exec_same (Region.noSelect_spec hns i' o · · ho) hsame) hd hI.met)
     obtain ⟨rfl, hb⟩ := h
     exact hnext w' hb
    ·rw [if_neg (by rw [hw]; decide)]
     exact hnext w (Below.refl _ _)
   ·-- a new variable
    obtain ⟨m, hm, hmk⟩ := List.mem_filterMap.1 him
    obtain ⟨o', ho', hgd, hrun⟩ := hA m hm i hmk
    rw [ho] at ho'
    cases ho'
    have hw : Region.wanted o (yielded ops a.tmps) = true := by simp [Region.wanted, hgd]
    rw [if_pos hw]
    refine .inl ?_
    unfold Oper.wp
    rw [hrun]
    show wpAny P .any ops Q fuel (L.setIfInBounds i true) (a.put o.dst (.pointer (some ⟨w.heap.size, 0, none⟩))) (w.alloc (.cells m.z.toArray m.T))
    have hb : Below w.heap.size w (w.alloc (.cells m.z.toArray m.T)) := (Below.refl _ _).alloc (Nat.le_refl _) _
    have hne : ∀ j, L.getD j false = true → j ≠ i := fun j hj e => by rw [e, hunf] at hj; cases hj
    have hgv : ∀ v : Var, v.alloc ≠ some i → v.g (fun j => if j = i then w.heap.size else gs j) = v.g gs := fun v hv => by
     unfold Var.g
     split
     ·rename_i k hk
      exact if_neg fun e => hv (by rw [hk, e])
     ·rfl
    have hmg : m.g (fun j => if j = i then w.heap.size else gs j) = w.heap.size := by
     unfold Var.g
     rw [hmk]
     exact if_pos rfl
    have hsl : L.getD m.st false = false := by
     obtain ⟨os, T, x, y, hos, _, _, hop, hex, _⟩ := hS m hm
     have hms : m.st < ops.size := (Array.getElem?_eq_some_iff.1 hos).1
     cases hst : L.getD m.st false with
     | false => rfl
     | true =>
      exfalso
      have hx1 := hex (fun _ => 0)
      have hx2 := hex (fun _ => 1)
      cases x with
      | tmp t =>
       by_cases hdt : dstOf ops i = some t
       ·have hsn := dstSeen_of hos (t := t) (List.mem_append_left _ (List.mem_filterMap.2 ⟨.tmp t, by simp [hop, Op.operands], rfl⟩)) hdt
        have h1 := hseen m.st (List.mem_map.2 ⟨m, hm, rfl⟩) i (List.mem_append_right _ him)
        rw [hsn] at h1
        have h2 : waits ops m.st i = true := by simpa using h1
        obtain ⟨e, he, hbn, h3⟩ := waits_spec hos h2
        have := hI.down m.st os hos hst e he hbn
        rw [h3, hunf] at this
        cases this
       ·-- else the pointer would be the same in both states
        have e1 : (putVars ops (fun _ => 0) (allocsOf vars) aD).tmps[t]? = (putVars ops (fun j => if j = i then 1 else 0) (allocsOf vars) aD).tmps[t]? := by
         refine (hfin (fun _ => 0)).congr (hfin (fun j => if j = i then 1 else 0)) ?_
         by_cases he : ∃ j u, ((False ∨ (j, u) ∈ vs) ∨ (j ∈ allocsOf vars ∧ u = .pointer (some ⟨(fun _ => 0 : Nat → Nat) j, 0, none⟩))) ∧ dstOf ops j = some t
         ·obtain ⟨j, u, hju, hj⟩ := he
          refine .inl ⟨j, u, hju, ?_, hj⟩
          rcases hju with h | ⟨h, rfl⟩
          ·exact .inl h
          ·refine .inr ⟨h, ?_⟩
           have : j ≠ i := fun e => hdt (e ▸ hj)
           simp [this]
         ·refine .inr ⟨fun j u h hj => he ⟨j, u, h, hj⟩, fun j u h hj => ?_⟩
          rcases h with h | ⟨h, _⟩
          ·exact he ⟨j, u, .inl h, hj⟩
          ·exact he ⟨j, _, .inr ⟨h, rfl⟩, hj⟩
        have e2 := hex (fun j => if j = i then 1 else 0)
        simp only [Act.eval, Array.getD_eq_getD_getElem?] at hx1 e2
        rw [e1, e2] at hx1
        unfold Var.g at hx1
        rw [hmk] at hx1
        simp at hx1
      | const c => simp only [Act.eval] at hx1 hx2; rw [hx1] at hx2; unfold Var.g at hx2; rw [hmk] at hx2; simp at hx2
      | global c => simp only [Act.eval] at hx1 hx2; rw [hx1] at hx2; unfold Var.g at hx2; rw [hmk] at hx2; simp at hx2
      | func c => simp only [Act.eval] at hx1 hx2; rw [hx1] at hx2; unfold Var.g at hx2; rw [hmk] at hx2; simp at hx2
    refine ih _ _ _ (fun j => if j = i then w.heap.size else gs j) ⟨?_, hSB w _ hI.met hb, fun v hv k hk hj => ?_, fun v hv hj => ?_, fun v hv v' hv' hj hj' hnn => ?_, by simp [hI.size], hdown'⟩ hcnt
    ·refine hdo ▸ hI.has.put (fun j u t hm ht => hothers j u t hie hm ht) fun j u => ?_
     rw [hset]
     constructor
     ·rintro ⟨hj | rfl, hju⟩
      ·left
       refine ⟨hj, ?_⟩
       rcases hju with hv | ⟨hm', he⟩
       ·exact .inl hv
       ·simp only [if_neg (hne _ hj)] at he
        exact .inr ⟨hm', he⟩
      ·right
       refine ⟨rfl, ?_⟩
       rcases hju with hv | ⟨_, he⟩
       ·exact absurd rfl (detsOk_allocs hk1 j (List.mem_map.2 ⟨(j, u), hv, rfl⟩) j him).1
       ·simpa using he
     ·rintro (⟨hj, hju⟩ | ⟨rfl, rfl⟩)
      ·refine ⟨.inl hj, ?_⟩
       rcases hju with hv | ⟨hm', he⟩
       ·exact .inl hv
       ·exact .inr ⟨hm', by simp only [if_neg (hne _ hj)]; exact he⟩
      ·exact ⟨.inr rfl, .inr ⟨him, by simp⟩⟩
    ·by_cases e : k = i
     ·subst e
      simp only [if_true]
      exact hB w hI.met
     ·simp only [if_neg e]
      exact hI.new v hv k hk (((hset _).1 hj).resolve_right e)
    ·rw [hkeep v hv]
     by_cases e : v.alloc = some i
     ·obtain rfl := alloc_unique hk2 v hv m hm i e hmk
      rw [hmg, hsl]
      exact Row.new w _ _
     ·rw [hgv v e]
      exact (hI.rows v hv (fun k hk => ((hset _).1 (hj k hk)).resolve_right fun h => e (by rw [hk, h]))).belowAll hb
    ·have hold : ∀ v ∈ vars, (∀ k, v.alloc = some k → (L.setIfInBounds i true).getD k false = true) → v.alloc ≠ some i → v.g gs < w.heap.size := fun v hv hj e =>
      (hI.rows v hv (fun k hk => ((hset _).1 (hj k hk)).resolve_right fun h => e (by rw [hk, h]))).lt
     by_cases e : v.alloc = some i <;> by_cases e' : v'.alloc = some i
     ·exact absurd (by rw [alloc_unique hk2 v hv v' hv' i e e']) hnn
     ·obtain rfl := alloc_unique hk2 v hv m hm i e hmk
      rw [hmg, hgv v' e']
      have := hold v' hv' hj' e'
      omega
     ·obtain rfl := alloc_unique hk2 v' hv' m hm i e' hmk
      rw [hmg, hgv v e]
      have := hold v hv hj e
      omega
     ·rw [hgv v e, hgv v' e']
      exact hI.apart v hv v' hv' (fun k hk => ((hset _).1 (hj k hk)).resolve_right fun h => e (by rw [hk, h])) (fun k hk => ((hset _).1 (hj' k hk)).resolve_right fun h => e' (by rw [hk, h])) hnn
  ·-- a store
   obtain ⟨m, hm, rfl⟩ := List.mem_map.1 his
   obtain ⟨o', T, x, y, ho', hgd, hdn, hop, hex, hey, hi1, hi2, hi3⟩ := hS m hm
   rw [ho] at ho'
   cases ho'
   have hne' : ∀ j, j ∈ vs.map (·.1) ++ allocsOf vars → j ≠ m.st := fun j hj e => hnst j hj (e ▸ his)
   have hw : Region.wanted o (yielded ops a.tmps) = true := by simp [Region.wanted, hgd]
   rw [if_pos hw]
   refine .inl ?_
   have hsame : ∀ t, t ∈ o.looksAt ops → a.tmps[t]? = (putVars ops gs (allocsOf vars) aD).tmps[t]? := by
    intro t ht
    refine hI.has.congr (hfin gs) ?_
    by_cases he : ∃ j u, ((False ∨ (j, u) ∈ vs) ∨ (j ∈ allocsOf vars ∧ u = .pointer (some ⟨gs j, 0, none⟩))) ∧ dstOf ops j = some t
    ·obtain ⟨j, u, hju, hj⟩ := he
     have hje : j ∈ vs.map (·.1) ++ allocsOf vars := by
      rcases hju with h | ⟨h, _⟩
      ·exact List.mem_append_left _ (List.mem_map.2 ⟨(j, u), h.resolve_left id, rfl⟩)
      ·exact List.mem_append_right _ h
     have h1 := hseen m.st his j hje
     rw [dstSeen_of ho ht hj] at h1
     have h2 : waits ops m.st j = true := by simpa using h1
     obtain ⟨e, he, hb, rfl⟩ := waits_spec ho h2
     exact .inl ⟨_, u, ⟨hwait e he hb, by rw [false_or] at hju; exact hju⟩, hju, hj⟩
    ·exact .inr ⟨fun j u h hj => he ⟨j, u, by rw [false_or]; exact h.2, hj⟩, fun j u h hj => he ⟨j, u, h, hj⟩⟩
   have hexe := exec_same (Region.noSelect_spec hns m.st o · · ho) hsame
   have hpres : ∀ k, m.alloc = some k → L.getD k false = true := fun k hk => by
    cases hLk : L.getD k false with
    | true => rfl
    | false =>
     exfalso
     have hkm := mem_allocs hm hk
     cases x with
     | tmp t =>
      have hx1 := hex (fun _ => 0)
      by_cases hdt : dstOf ops k = some t
      ·have hsn := dstSeen_of ho (t := t) (List.mem_append_left _ (List.mem_filterMap.2 ⟨.tmp t, by simp [hop, Op.operands], rfl⟩)) hdt
       have h1 := hseen m.st his k (List.mem_append_right _ hkm)
       rw [hsn] at h1
       have h2 : waits ops m.st k = true := by simpa using h1
       obtain ⟨e, he, hbn, h3⟩ := waits_spec ho h2
       have := hwait e he hbn
       rw [h3, hLk] at this
       cases this
      ·have e1 : (putVars ops (fun _ => 0) (allocsOf vars) aD).tmps[t]? = (putVars ops (fun j => if j = k then 1 else 0) (allocsOf vars) aD).tmps[t]? := by
        refine (hfin (fun _ => 0)).congr (hfin (fun j => if j = k then 1 else 0)) ?_
        by_cases he : ∃ j u, ((False ∨ (j, u) ∈ vs) ∨ (j ∈ allocsOf vars ∧ u = .pointer (some ⟨(fun _ => 0 : Nat → Nat) j, 0, none⟩))) ∧ dstOf ops j = some t
        ·obtain ⟨j, u, hju, hj⟩ := he
         refine .inl ⟨j, u, hju, ?_, hj⟩
         rcases hju with h | ⟨h, rfl⟩
         ·exact .inl h
         ·refine .inr ⟨h, ?_⟩
          have : j ≠ k := fun e => hdt (e ▸ hj)
          simp [this]
        ·refine .inr ⟨fun j u h hj => he ⟨j, u, h, hj⟩, fun j u h hj => ?_⟩
         rcases h with h | ⟨h, _⟩
         ·exact he ⟨j, u, .inl h, hj⟩
         ·exact he ⟨j, _, .inr ⟨h, rfl⟩, hj⟩
       have e2 := hex (fun j => if j = k then 1 else 0)
       simp only [Act.eval, Array.getD_eq_getD_getElem?] at hx1 e2
       rw [e1, e2] at hx1
       unfold Var.g at hx1
       rw [hk] at hx1
       simp at hx1
     | const c => have hx1 := hex (fun _ => 0); have hx2 := hex (fun _ => 1); simp only [Act.eval] at hx1 hx2; rw [hx1] at hx2; unfold Var.g at hx2; rw [hk] at hx2; simp at hx2
     | global c => have hx1 := hex (fun _ => 0); have hx2 := hex (fun _ => 1); simp only [Act.eval] at hx1 hx2; rw [hx1] at hx2; unfold Var.g at hx2; rw [hk] at hx2; simp at hx2
     | func c => have hx1 := hex (fun _ => 0); have hx2 := hex (fun _ => 1); simp only [Act.eval] at hx1 hx2; rw [hx1] at hx2; unfold Var.g at hx2; rw [hk] at hx2; simp at hx2
   have hrow := hI.rows m hm hpres
   have hr2 : Row w (m.g gs) m.T m.z := by rwa [if_neg (by rw [hunf]; decide)] at hrow
   have hat : B ≤ m.g gs ∨ ∃ v ∈ vars, v.alloc = none ∧ v.blk = m.g gs := by
    cases hal : m.alloc with
    | none => exact .inr ⟨m, hm, hal, by simp [Var.g, hal]⟩
    | some k =>
     left
     have := hI.new m hm k hal (hpres k hal)
     simpa [Var.g, hal] using this
   have hrunF : ∀ K : Act → World → Prop, K (a.put o.dst undef) (w.setRow (m.g gs) m.c.toArray) → o.wp P a w K Q := fun K hK => by
    have h1 : o.wp P (putVars ops gs (allocsOf vars) aD) w (fun a' w' => a' = (putVars ops gs (allocsOf vars) aD).put o.dst undef ∧ w' = w.setRow (m.g gs) m.c.toArray) (fun _ _ _ => False) :=
     wp_store_row T x y hop (m.g gs) m.c.toArray (hex gs) (hey gs) m.T _ hr2 hi1 hi2 hi3 ⟨rfl, rfl⟩
    unfold Oper.wp at h1 ⊢
    rw [hexe]
    generalize (execOp (putVars ops gs (allocsOf vars) aD).eval o).run P w = r at *
    rw [hdn] at hK
    cases r with
    | ok nx w' =>
     cases nx <;> simp only [Oper.upon, hdn, Act.put] at h1 ⊢
     case value u => rw [h1.2]; exact hK
     case skip => rw [h1.2]; exact hK
     case defer d =>
      exfalso
      have h2 := congrArg (fun b : Act => b.defers.length) h1.1
      simp at h2
     case enter f args =>
      refine Calls.mono h1 fun e w'' he => ?_
      cases e with
      | returned u => rw [he.2]; exact hK
      | panicked c => exact he.elim
      | outgrown => obtain ⟨_, _, hf⟩ := he; exact hf.elim
     case row row args => exact Rows.mono h1 fun u w'' he => by rw [he.2]; exact hK
    | halt x w' => cases x <;> simp only [Oper.upon] at h1 ⊢
   refine hrunF _ ?_
   rw [hdn]
   show wpAny P .any ops Q fuel (L.setIfInBounds m.st true) a (w.setRow (m.g gs) m.c.toArray)
   have hback : ∀ v ∈ vars, (∀ k, v.alloc = some k → (L.setIfInBounds m.st true).getD k false = true) → ∀ k, v.alloc = some k → L.getD k false = true := fun v hv h k hk =>
    ((hset _).1 (h k hk)).resolve_right (hne' k (List.mem_append_right _ (mem_allocs hv hk)))
   refine ih _ _ _ gs ⟨?_, hSR _ _ _ hI.met hat, fun v hv k hk hj => hI.new v hv k hk (((hset _).1 hj).resolve_right (hne' k (List.mem_append_right _ (mem_allocs hv hk)))), fun v hv hj => ?_, fun v hv v' hv' hj hj' => hI.apart v hv v' hv' (hback v hv hj) (hback v' hv' hj'), by simp [hI.size], hdown'⟩ hcnt
   ·have h1 := hI.has
    have hiff : ∀ j u, ((L.setIfInBounds m.st true).getD j false = true ∧ ((j, u) ∈ vs ∨ (j ∈ allocsOf vars ∧ u = .pointer (some ⟨gs j, 0, none⟩)))) ↔ (L.getD j false = true ∧ ((j, u) ∈ vs ∨ (j ∈ allocsOf vars ∧ u = .pointer (some ⟨gs j, 0, none⟩)))) := fun j u => by
     rw [hset]
     refine ⟨fun ⟨h, h'⟩ => ⟨h.resolve_right ?_, h'⟩, fun ⟨h, h'⟩ => ⟨.inl h, h'⟩⟩
     rcases h' with h' | ⟨h', _⟩
     ·exact hne' j (List.mem_append_left _ (List.mem_map.2 ⟨(j, u), h', rfl⟩))
     ·exact hne' j (List.mem_append_right _ h')
    exact ⟨h1.defers, h1.size, fun t j u hm => h1.there t j u ((hiff j u).1 hm), fun t ht => h1.else_ t fun j u hm => ht j u ((hiff j u).2 hm)⟩
   ·by_cases e : v.st = m.st
    ·obtain rfl := st_unique hk5 v hv m hm e
     rw [if_pos ((hset _).2 (.inr rfl))]
     exact setRow_heap w _ _ _ _ _ hr2
    ·have h1 := hI.rows v hv (hback v hv hj)
     have h2 : (L.setIfInBounds m.st true).getD v.st false = L.getD v.st false := getD_set_ne false (Ne.symm e)
     rw [h2]
     exact (setRow_other w (m.g gs) (v.g gs) _ (hI.apart v hv m hm (hback v hv hj) hpres e)).trans h1
theorem wp_vars {id : Nat} {B : Nat} {vs : List (Nat × Value)} {vars : List Var} {a0 aD : Act} {w0 : World} (hm : P.follows .mixedOrders = true) (hS0 : S w0.drew)
  (hD : Dets P ops S vs a0 aD) (hA : ∀ v ∈ vars, ∀ k, v.alloc = some k → AllocOp P ops ⟨k, v.T, v.z⟩) (hS : ∀ v ∈ vars, StoreOp P ops (fun gs => putVars ops gs (allocsOf vars) aD) v)
  (hk : (detsOk ops (allocsOf vars) (vs.map (·.1)) && allocsOk ops (allocsOf vars) && coverOk ops (vs.map (·.1) ++ allocsOf vars) (storesOf vars) && dstsIn ops a0.tmps.size && Region.noSelect ops && nodupOk (storesOf vars)) = true)
  (hSB : ∀ w w', S w → Below w.heap.size w w' → S w') (hSR : ∀ w g cs, S w → (B ≤ g ∨ ∃ v ∈ vars, v.alloc = none ∧ v.blk = g) → S (w.setRow g cs)) (hB : ∀ w, S w → B ≤ w.heap.size)
  (hblk : ∀ v ∈ vars, ∀ v' ∈ vars, v.alloc = none → v'.alloc = none → v.st ≠ v'.st → v.blk ≠ v'.blk) (hrow : ∀ v ∈ vars, v.alloc = none → Row w0.drew v.blk v.T v.z)
  (hend : ∀ (gs : Nat → Nat) w, S w → (∀ v ∈ vars, ∀ k, v.alloc = some k → B ≤ gs k) → (∀ v ∈ vars, Row w (v.g gs) v.T v.c) → (∀ v ∈ vars, ∀ v' ∈ vars, v.st ≠ v'.st → v.g gs ≠ v'.g gs) →
   Q .normal (putVars ops gs (allocsOf vars) aD) w) : (Code.region id ops true).wp P Q a0 w0 := by
 simp only [Bool.and_eq_true] at hk
 obtain ⟨⟨⟨⟨⟨k1, k2⟩, k3⟩, k4⟩, k5⟩, k6⟩ := hk
 refine wp_region_any hm ?_
 have hnone : ∀ j, (Array.replicate ops.size false).getD j false = false := fun j => by
  by_cases h : j < ops.size <;> simp [h]
 have hn : ∀ v : Var, (∀ k, v.alloc = some k → (Array.replicate ops.size false).getD k false = true) → v.alloc = none := fun v h => by
  cases hv : v.alloc with
  | none => rfl
  | some k => have := h k hv; rw [hnone] at this; cases this
 have hg : ∀ v : Var, v.alloc = none → v.g (fun _ => 0) = v.blk := fun v h => by simp [Var.g, h]
 refine vars_all hD hA hS k1 k2 k3 k4 k5 k6 hSB hSR hB hend ops.size _ a0 _ (fun _ => 0) ⟨?_, hS0, fun v _ k _ h => ?_, fun v hv h => ?_, fun v hv v' hv' h h' hne => ?_, by simp, fun i o _ h => ?_⟩ ?_
 ·exact ⟨rfl, rfl, fun t j u h => (by rw [hnone] at h; cases h.1), fun _ _ => rfl⟩
 ·rw [hnone] at h; cases h
 ·rw [hnone, hg v (hn v h)]
  exact hrow v hv (hn v h)
 ·rw [hg v (hn v h), hg v' (hn v' h')]
  exact hblk v hv v' hv' (hn v h) (hn v' h') hne
 ·rw [hnone] at h; cases h
 ·unfold cnt
  exact Nat.le_trans List.countP_le_length (by simp)
theorem wp_vars_two {id : Nat} {B : Nat} {vs : List (Nat × Value)} {a0 aD : Act} {w0 : World} {k1 k2 s1 s2 : Nat} {o1 o2 : Oper} {T1 T2 L1 L2 : TypeId} {z1 z2 c1 c2 : List Value} {x1 y1 x2 y2 : Operand} (hm : P.follows .mixedOrders = true) (hS0 : S w0.drew)
  (hSB : ∀ w w', S w → Below w.heap.size w w' → S w') (hSR : ∀ w g cs, S w → B ≤ g → S (w.setRow g cs)) (hB : ∀ w, S w → B ≤ w.heap.size)
  (hD : Dets P ops S vs a0 aD) (hA1 : AllocOp P ops ⟨k1, T1, z1⟩) (hA2 : AllocOp P ops ⟨k2, T2, z2⟩)
  (hk : (detsOk ops [k1, k2] (vs.map (·.1)) && allocsOk ops [k1, k2] && coverOk ops (vs.map (·.1) ++ [k1, k2]) [s1, s2] && dstsIn ops a0.tmps.size && Region.noSelect ops && nodupOk [s1, s2]) = true) (hss : s1 ≠ s2)
  (h1 : ops[s1]? = some o1) (h2 : ops[s2]? = some o2) (g1 : o1.guard = none) (g2 : o2.guard = none) (d1 d2 : Option Tmp) (hd1 : dstOf ops k1 = d1) (hd2 : dstOf ops k2 = d2)
  (hst1 : o1.op = .store L1 x1 y1) (hst2 : o2.op = .store L2 x2 y2) (hn1 : o1.dst = none) (hn2 : o2.dst = none)
  (hx1 : ∀ p q : Nat, ((aD.put d1 (.pointer (some ⟨p, 0, none⟩))).put d2 (.pointer (some ⟨q, 0, none⟩))).eval x1 = .pointer (some ⟨p, 0, none⟩)) (hy1 : ∀ p q : Nat, ((aD.put d1 (.pointer (some ⟨p, 0, none⟩))).put d2 (.pointer (some ⟨q, 0, none⟩))).eval y1 = .agg c1.toArray)
  (hx2 : ∀ p q : Nat, ((aD.put d1 (.pointer (some ⟨p, 0, none⟩))).put d2 (.pointer (some ⟨q, 0, none⟩))).eval x2 = .pointer (some ⟨q, 0, none⟩)) (hy2 : ∀ p q : Nat, ((aD.put d1 (.pointer (some ⟨p, 0, none⟩))).put d2 (.pointer (some ⟨q, 0, none⟩))).eval y2 = .agg c2.toArray)
  (hi1 : (P.info? L1).map (·.size) = some c1.toArray.size) (hz1 : z1.toArray.size = c1.toArray.size) (ho1 : c1.toArray.all (·.oneCell') = true) (hi2 : (P.info? L2).map (·.size) = some c2.toArray.size) (hz2 : z2.toArray.size = c2.toArray.size) (ho2 : c2.toArray.all (·.oneCell') = true)
  (hend : ∀ (p q : Nat) w, S w → B ≤ p → B ≤ q → p ≠ q → Row w p T1 c1 → Row w q T2 c2 → Q .normal ((aD.put d1 (.pointer (some ⟨p, 0, none⟩))).put d2 (.pointer (some ⟨q, 0, none⟩))) w) : (Code.region id ops true).wp P Q a0 w0 := by
 refine wp_vars (B := B) (vars := [⟨some k1, 0, T1, z1, c1, s1⟩, ⟨some k2, 0, T2, z2, c2, s2⟩]) hm hS0 hD ?_ ?_ hk hSB ?_ hB ?_ ?_ ?_
 ·intro v hv k hk'
  rcases List.mem_cons.1 hv with rfl | hv
  ·cases hk'; exact hA1
  ·obtain rfl := List.mem_singleton.1 hv
   cases hk'; exact hA2
 ·have hp : ∀ gs : Nat → Nat, putVars ops gs (allocsOf [⟨some k1, 0, T1, z1, c1, s1⟩, ⟨some k2, 0, T2, z2, c2, s2⟩]) aD = (aD.put d1 (.pointer (some ⟨gs k1, 0, none⟩))).put d2 (.pointer (some ⟨gs k2, 0, none⟩)) := fun gs => by
   simp only [allocsOf, List.filterMap_cons, List.filterMap_nil, putVars, hd1, hd2]
  intro v hv
  rcases List.mem_cons.1 hv with rfl | hv
  ·exact ⟨o1, L1, x1, y1, h1, g1, hn1, hst1, fun gs => (congrArg (fun b : Act => b.eval x1) (hp gs)).trans (hx1 _ _), fun gs => (congrArg (fun b : Act => b.eval y1) (hp gs)).trans (hy1 _ _), hi1, hz1, ho1⟩
  ·obtain rfl := List.mem_singleton.1 hv
   exact ⟨o2, L2, x2, y2, h2, g2, hn2, hst2, fun gs => (congrArg (fun b : Act => b.eval x2) (hp gs)).trans (hx2 _ _), fun gs => (congrArg (fun b : Act => b.eval y2) (hp gs)).trans (hy2 _ _), hi2, hz2, ho2⟩
 ·intro w g cs hS hg
  refine hSR w g cs hS (hg.resolve_right ?_)
  rintro ⟨v, hv, hva, _⟩
  rcases List.mem_cons.1 hv with rfl | hv
  ·cases hva
  ·obtain rfl := List.mem_singleton.1 hv
   cases hva
 ·intro v hv v' hv' hva
  rcases List.mem_cons.1 hv with rfl | hv
  ·cases hva
  ·obtain rfl := List.mem_singleton.1 hv
   cases hva
 ·intro v hv hva
  rcases List.mem_cons.1 hv with rfl | hv
  ·cases hva
  ·obtain rfl := List.mem_singleton.1 hv
   cases hva
 ·intro gs w hS' hnew hrows hap
  have hp : putVars ops gs (allocsOf [⟨some k1, 0, T1, z1, c1, s1⟩, ⟨some k2, 0, T2, z2, c2, s2⟩]) aD = (aD.put d1 (.pointer (some ⟨gs k1, 0, none⟩))).put d2 (.pointer (some ⟨gs k2, 0, none⟩)) := by
   simp only [allocsOf, List.filterMap_cons, List.filterMap_nil, putVars, hd1, hd2]
  rw [hp]
  exact hend _ _ w hS' (hnew ⟨some k1, 0, T1, z1, c1, s1⟩ (by simp) k1 rfl) (hnew ⟨some k2, 0, T2, z2, c2, s2⟩ (by simp) k2 rfl) (hap ⟨some k1, 0, T1, z1, c1, s1⟩ (by simp) ⟨some k2, 0, T2, z2, c2, s2⟩ (by simp) hss)
   (hrows ⟨some k1, 0, T1, z1, c1, s1⟩ (by simp)) (hrows ⟨some k2, 0, T2, z2, c2, s2⟩ (by simp))
end
end
section
open Go.RowKit
section
variable {P : Program}
theorem wp_flat_side {ops : Array Oper} {Q : Exit → Act → World → Prop} {S : World → Prop} {id : Nat} {vs : List (Nat × Value)} {a0 aD : Act} {w0 : World} {x y s : Nat} {ox oy os : Oper} {u v : Value} {T T' : TypeId} {g : Nat} {z c : List Value} {p q : Operand} (hm : P.follows .mixedOrders = true) (hS : S w0.drew)
  (hSB : ∀ w w', S w → Below w.heap.size w w' → S w') (hD : Dets P ops S vs a0 aD)
  (hk : (detsOk ops [] (vs.map (·.1)) && lateOk ops (vs.map (·.1)) [x, y, s] && dstsIn ops a0.tmps.size && Region.noSelect ops && (cnt ops (lateL ops [x, y, s]) == 3) && (Region.ready .any ops (lateL ops [x, y, s]) == [x, y])
   && (Region.ready .any ops ((lateL ops [x, y, s]).setIfInBounds x true) == [y, s]) && (Region.ready .any ops ((lateL ops [x, y, s]).setIfInBounds y true) == [x])
   && (Region.ready .any ops (((lateL ops [x, y, s]).setIfInBounds x true).setIfInBounds y true) == [s]) && (Region.ready .any ops (((lateL ops [x, y, s]).setIfInBounds y true).setIfInBounds x true) == [s]) && (Region.ready .any ops (((lateL ops [x, y, s]).setIfInBounds x true).setIfInBounds s true) == [y])
   && (Region.ready .any ops ((((lateL ops [x, y, s]).setIfInBounds x true).setIfInBounds y true).setIfInBounds s true) == []) && (Region.ready .any ops ((((lateL ops [x, y, s]).setIfInBounds y true).setIfInBounds x true).setIfInBounds s true) == []) && (Region.ready .any ops ((((lateL ops [x, y, s]).setIfInBounds x true).setIfInBounds s true).setIfInBounds y true) == [])) = true)
  (hx : ops[x]? = some ox) (hy : ops[y]? = some oy) (hs : ops[s]? = some os) (gx : ox.guard = none) (gy : oy.guard = none) (gs : os.guard = none)
  (dx dy : Option Tmp) (hdx : ox.dst = dx) (hdy : oy.dst = dy)
  (hX : ∀ w, (execOp aD.eval ox).run P w = .ok (.value u) w) (hY : ∀ w, (execOp aD.eval oy).run P w = .ok (.value v) w)
  (hXY : ∀ w, (execOp (aD.put dy v).eval ox).run P w = .ok (.value u) w) (hYX : ∀ w, (execOp (aD.put dx u).eval oy).run P w = .ok (.value v) w)
  (hcomm : (aD.put dy v).put dx u = (aD.put dx u).put dy v)
  (hst : os.op = .store T p q) (hdn : os.dst = none)
  (hp : (aD.put dx u).eval p = .pointer (some ⟨g, 0, none⟩)) (hq : (aD.put dx u).eval q = .agg c.toArray) (hp2 : ((aD.put dx u).put dy v).eval p = .pointer (some ⟨g, 0, none⟩)) (hq2 : ((aD.put dx u).put dy v).eval q = .agg c.toArray)
  (hr : ∀ w, S w → Row w g T' z) (hi : (P.info? T).map (·.size) = some c.toArray.size) (hsz : z.toArray.size = c.toArray.size) (h1 : c.toArray.all (·.oneCell') = true)
  (hend : ∀ w, S w → Q .normal ((aD.put dx u).put dy v) (w.setRow g c.toArray)) : (Code.region id ops true).wp P Q a0 w0 := by
 simp only [Bool.and_eq_true, beq_iff_eq] at hk
 obtain ⟨⟨⟨⟨⟨⟨⟨⟨⟨⟨⟨⟨⟨c1, c3⟩, c4⟩, c5⟩, c6⟩, r0⟩, rx⟩, ry⟩, rxy⟩, ryx⟩, rxs⟩, f1⟩, f2⟩, f3⟩ := hk
 have ex : x < ops.size := (Array.getElem?_eq_some_iff.1 hx).1
 have ey : y < ops.size := (Array.getElem?_eq_some_iff.1 hy).1
 have es : s < ops.size := (Array.getElem?_eq_some_iff.1 hs).1
 have hone : ∀ (k : Nat) (o : Oper) (a : Act) (w : World) (K : Act → World → Prop), ops[k]? = some o → o.guard = none → o.wp P a w K Q → wpOp P ops Q k K a w := fun k o a w K ho hg h => by
  unfold wpOp
  simp only [ho]
  rw [if_pos (by simp [Region.wanted, hg])]
  exact .inl h
 have hval : ∀ (o : Oper) (a : Act) (w : World) (t : Value) (K : Act → World → Prop), (execOp a.eval o).run P w = .ok (.value t) w → K (a.put o.dst t) w → o.wp P a w K Q := fun o a w t K h hK => by
  unfold Oper.wp
  rw [h]
  exact hK
 refine wp_flat (B := 0) (made := []) (late := [x, y, s]) hm hS hD (fun m h => by cases h) c1 rfl (by simpa using c3) c4 c5 c6 (by simp [ex, ey, es]) hSB (fun _ _ => Nat.zero_le _) fun _ w hS' _ _ => ?_
 have hrow := hr w hS'
 show wpAny P .any ops Q 3 (lateL ops [x, y, s]) aD w
 refine ⟨fun e => (by rw [r0] at e; cases e), fun i hmem => ?_⟩
 rw [r0] at hmem
 rcases List.mem_cons.1 hmem with rfl | hmem
 ·refine hone i ox _ _ _ hx gx (hval ox _ _ u _ (hX w) ?_)
  rw [hdx]
  refine ⟨fun e => (by rw [rx] at e; cases e), fun j hj => ?_⟩
  rw [rx] at hj
  rcases List.mem_cons.1 hj with rfl | hj
  ·refine hone j oy _ _ _ hy gy (hval oy _ _ v _ (hYX w) ?_)
   rw [hdy]
   refine ⟨fun e => (by rw [rxy] at e; cases e), fun k hk => ?_⟩
   rw [rxy] at hk
   obtain rfl := List.mem_singleton.1 hk
   refine hone k os _ _ _ hs gs (wp_store_row T p q hst g c.toArray hp2 hq2 T' _ hrow hi hsz h1 ?_)
   rw [hdn]
   exact ⟨f1, hend w hS'⟩
  ·obtain rfl := List.mem_singleton.1 hj
   refine hone j os _ _ _ hs gs (wp_store_row T p q hst g c.toArray hp hq T' _ hrow hi hsz h1 ?_)
   rw [hdn]
   refine ⟨fun e => (by rw [rxs] at e; cases e), fun k hk => ?_⟩
   rw [rxs] at hk
   obtain rfl := List.mem_singleton.1 hk
   refine hone k oy _ _ _ hy gy (hval oy _ _ v _ (hYX _) ?_)
   rw [hdy]
   exact ⟨f3, hend w hS'⟩
 ·obtain rfl := List.mem_singleton.1 hmem
  refine hone i oy _ _ _ hy gy (hval oy _ _ v _ (hY w) ?_)
  rw [hdy]
  refine ⟨fun e => (by rw [ry] at e; cases e), fun j hj => ?_⟩
  rw [ry] at hj
  obtain rfl := List.mem_singleton.1 hj
  refine hone j ox _ _ _ hx gx (hval ox _ _ u _ (hXY w) ?_)
  rw [hdx, hcomm]
  refine ⟨fun e => (by rw [ryx] at e; cases e), fun k hk => ?_⟩
  rw [ryx] at hk
  obtain rfl := List.mem_singleton.1 hk
  refine hone k os _ _ _ hs gs (wp_store_row T p q hst g c.toArray hp2 hq2 T' _ hrow hi hsz h1 ?_)
  rw [hdn]
  exact ⟨f2, hend w hS'⟩
theorem exec_extract {o : Oper} {a : Act} (x : Operand) (n : Nat) (ho : o.op = .extract x n) (u r : Value) (hx : a.eval x = u) (hi : ∀ w, (Instr.extract u n).run P w = .ok r w) : ∀ w, (execOp a.eval o).run P w = .ok (.value r) w := fun w => by
 unfold execOp
 simp only [ho, Sem.run_bind, Sem.run_pure, Result.andThen_ok, hx, hi]
theorem wp_vars_one {ops : Array Oper} {Q : Exit → Act → World → Prop} {S : World → Prop} {id : Nat} {B : Nat} {vs : List (Nat × Value)} {a0 aD : Act} {w0 : World} {k1 s1 : Nat} {o1 : Oper} {T1 L1 : TypeId} {z1 c1 : List Value} {x1 y1 : Operand} (hm : P.follows .mixedOrders = true) (hS0 : S w0.drew)
  (hSB : ∀ w w', S w → Below w.heap.size w w' → S w') (hSR : ∀ w g cs, S w → B ≤ g → S (w.setRow g cs)) (hB : ∀ w, S w → B ≤ w.heap.size)
  (hD : Dets P ops S vs a0 aD) (hA1 : AllocOp P ops ⟨k1, T1, z1⟩)
  (hk : (detsOk ops [k1] (vs.map (·.1)) && allocsOk ops [k1] && coverOk ops (vs.map (·.1) ++ [k1]) [s1] && dstsIn ops a0.tmps.size && Region.noSelect ops && nodupOk [s1]) = true)
  (h1 : ops[s1]? = some o1) (g1 : o1.guard = none) (d1 : Option Tmp) (hd1 : dstOf ops k1 = d1) (hst1 : o1.op = .store L1 x1 y1) (hn1 : o1.dst = none)
  (hx1 : ∀ p : Nat, (aD.put d1 (.pointer (some ⟨p, 0, none⟩))).eval x1 = .pointer (some ⟨p, 0, none⟩)) (hy1 : ∀ p : Nat, (aD.put d1 (.pointer (some ⟨p, 0, none⟩))).eval y1 = .agg c1.toArray)
  (hi1 : (P.info? L1).map (·.size) = some c1.toArray.size) (hz1 : z1.toArray.size = c1.toArray.size) (ho1 : c1.toArray.all (·.oneCell') = true)
  (hend : ∀ (p : Nat) w, S w → B ≤ p → Row w p T1 c1 → Q .normal (aD.put d1 (.pointer (some ⟨p, 0, none⟩))) w) : (Code.region id ops true).wp P Q a0 w0 := by
 refine wp_vars (B := B) (vars := [⟨some k1, 0, T1, z1, c1, s1⟩]) hm hS0 hD ?_ ?_ hk hSB ?_ hB ?_ ?_ ?_
 ·intro v hv k hk'
  obtain rfl := List.mem_singleton.1 hv
  cases hk'; exact hA1
 ·have hp : ∀ gs : Nat → Nat, putVars ops gs (allocsOf [⟨some k1, 0, T1, z1, c1, s1⟩]) aD = aD.put d1 (.pointer (some ⟨gs k1, 0, none⟩)) := fun gs => by
   simp only [allocsOf, List.filterMap_cons, List.filterMap_nil, putVars, hd1]
  intro v hv
  obtain rfl := List.mem_singleton.1 hv
  exact ⟨o1, L1, x1, y1, h1, g1, hn1, hst1, fun gs => (congrArg (fun b : Act => b.eval x1) (hp gs)).trans (hx1 _), fun gs => (congrArg (fun b : Act => b.eval y1) (hp gs)).trans (hy1 _), hi1, hz1, ho1⟩
 ·intro w g cs hS hg
  refine hSR w g cs hS (hg.resolve_right ?_)
  rintro ⟨v, hv, hva, _⟩
  obtain rfl := List.mem_singleton.1 hv
  cases hva
 ·intro v hv v' hv' hva
  obtain rfl := List.mem_singleton.1 hv
  cases hva
 ·intro v hv hva
  obtain rfl := List.mem_singleton.1 hv
  cases hva
 ·intro gs w hS' hge hrows _
  have r1 := hrows ⟨some k1, 0, T1, z1, c1, s1⟩ (by simp)
  have b1 := hge ⟨some k1, 0, T1, z1, c1, s1⟩ (by simp) k1 rfl
  have := hend (gs k1) w hS' b1 r1
  simpa only [allocsOf, List.filterMap_cons, List.filterMap_nil, putVars, hd1] using this
end
end
section
section
open Go.RowKit
section
variable {P : Program}
theorem wp_flat_seq {ops : Array Oper} {Q : Exit → Act → World → Prop} {S : World → Prop} {id : Nat} {vs : List (Nat × Value)} {a0 aD : Act} {w0 : World} {s1 s2 : Nat} {o1 o2 : Oper} {L1 L2 T1 T2 : TypeId} {g1 g2 : Nat} {z1 c1 z2 c2 : List Value} {x1 y1 x2 y2 : Operand} (hm : P.follows .mixedOrders = true) (hS : S w0.drew)
  (hSB : ∀ w w', S w → Below w.heap.size w w' → S w') (hD : Dets P ops S vs a0 aD)
  (hk : (detsOk ops [] (vs.map (·.1)) && lateOk ops (vs.map (·.1)) [s1, s2] && dstsIn ops a0.tmps.size && Region.noSelect ops && (cnt ops (lateL ops [s1, s2]) == 2) && (Region.ready .any ops (lateL ops [s1, s2]) == [s1])
   && (Region.ready .any ops ((lateL ops [s1, s2]).setIfInBounds s1 true) == [s2]) && (Region.ready .any ops (((lateL ops [s1, s2]).setIfInBounds s1 true).setIfInBounds s2 true) == [])) = true)
  (h1 : ops[s1]? = some o1) (h2 : ops[s2]? = some o2) (gd1 : o1.guard = none) (gd2 : o2.guard = none)
  (hst1 : o1.op = .store L1 x1 y1) (hst2 : o2.op = .store L2 x2 y2) (hn1 : o1.dst = none) (hn2 : o2.dst = none)
  (hx1 : aD.eval x1 = .pointer (some ⟨g1, 0, none⟩)) (hy1 : aD.eval y1 = .agg c1.toArray) (hx2 : aD.eval x2 = .pointer (some ⟨g2, 0, none⟩)) (hy2 : aD.eval y2 = .agg c2.toArray) (hne : g2 ≠ g1)
  (hr1 : ∀ w, S w → Row w g1 T1 z1) (hr2 : ∀ w, S w → Row w g2 T2 z2)
  (hi1 : (P.info? L1).map (·.size) = some c1.toArray.size) (hz1 : z1.toArray.size = c1.toArray.size) (ho1 : c1.toArray.all (·.oneCell') = true) (hi2 : (P.info? L2).map (·.size) = some c2.toArray.size) (hz2 : z2.toArray.size = c2.toArray.size) (ho2 : c2.toArray.all (·.oneCell') = true)
  (hend : ∀ w, S w → Q .normal aD ((w.setRow g1 c1.toArray).setRow g2 c2.toArray)) : (Code.region id ops true).wp P Q a0 w0 := by
 simp only [Bool.and_eq_true, beq_iff_eq] at hk
 obtain ⟨⟨⟨⟨⟨⟨⟨k1, k3⟩, k4⟩, k5⟩, k6⟩, r0⟩, r1⟩, r2⟩ := hk
 have e1 : s1 < ops.size := (Array.getElem?_eq_some_iff.1 h1).1
 have e2 : s2 < ops.size := (Array.getElem?_eq_some_iff.1 h2).1
 have hone : ∀ (k : Nat) (o : Oper) (a : Act) (w : World) (K : Act → World → Prop), ops[k]? = some o → o.guard = none → o.wp P a w K Q → wpOp P ops Q k K a w := fun k o a w K ho hg h => by
  unfold wpOp
  simp only [ho]
  rw [if_pos (by simp [Region.wanted, hg])]
  exact .inl h
 refine wp_flat (B := 0) (made := []) (late := [s1, s2]) hm hS hD (fun m h => by cases h) k1 rfl (by simpa using k3) k4 k5 k6 (by simp [e1, e2]) hSB (fun _ _ => Nat.zero_le _) fun _ w hS' _ _ => ?_
 show wpAny P .any ops Q 2 (lateL ops [s1, s2]) aD w
 refine ⟨fun e => (by rw [r0] at e; cases e), fun i hmem => ?_⟩
 rw [r0] at hmem
 obtain rfl := List.mem_singleton.1 hmem
 refine hone i o1 _ _ _ h1 gd1 (wp_store_row L1 x1 y1 hst1 g1 c1.toArray hx1 hy1 T1 _ (hr1 w hS') hi1 hz1 ho1 ?_)
 rw [hn1]
 refine ⟨fun e => (by rw [r1] at e; cases e), fun j hj => ?_⟩
 rw [r1] at hj
 obtain rfl := List.mem_singleton.1 hj
 refine hone j o2 _ _ _ h2 gd2 (wp_store_row L2 x2 y2 hst2 g2 c2.toArray hx2 hy2 T2 _ ((setRow_other w g1 g2 _ hne).trans (hr2 w hS')) hi2 hz2 ho2 ?_)
 rw [hn2]
 exact ⟨r2, hend w hS'⟩
end
end
section
open Go.RowKit
section
variable {P : Program} {ops : Array Oper} {Q : Exit → Act → World → Prop} {S : World → Prop}
theorem wp_vars_four {id : Nat} {B : Nat} {vs : List (Nat × Value)} {a0 aD : Act} {w0 : World} {k1 k2 k3 k4 s1 s2 s3 s4 : Nat} {o1 o2 o3 o4 : Oper} {T1 T2 T3 T4 L1 L2 L3 L4 : TypeId} {z1 z2 z3 z4 c1 c2 c3 c4 : List Value} {x1 y1 x2 y2 x3 y3 x4 y4 : Operand} (hm : P.follows .mixedOrders = true) (hS0 : S w0.drew)
  (hSB : ∀ w w', S w → Below w.heap.size w w' → S w') (hSR : ∀ w g cs, S w → B ≤ g → S (w.setRow g cs)) (hB : ∀ w, S w → B ≤ w.heap.size)
  (hD : Dets P ops S vs a0 aD) (hA1 : AllocOp P ops ⟨k1, T1, z1⟩) (hA2 : AllocOp P ops ⟨k2, T2, z2⟩) (hA3 : AllocOp P ops ⟨k3, T3, z3⟩) (hA4 : AllocOp P ops ⟨k4, T4, z4⟩)
  (hk : (detsOk ops [k1, k2, k3, k4] (vs.map (·.1)) && allocsOk ops [k1, k2, k3, k4] && coverOk ops (vs.map (·.1) ++ [k1, k2, k3, k4]) [s1, s2, s3, s4] && dstsIn ops a0.tmps.size && Region.noSelect ops && nodupOk [s1, s2, s3, s4]) = true) (hs12 : s1 ≠ s2) (hs13 : s1 ≠ s3) (hs14 : s1 ≠ s4) (hs23 : s2 ≠ s3) (hs24 : s2 ≠ s4) (hs34 : s3 ≠ s4)
  (h1 : ops[s1]? = some o1) (h2 : ops[s2]? = some o2) (h3 : ops[s3]? = some o3) (h4 : ops[s4]? = some o4) (g1 : o1.guard = none) (g2 : o2.guard = none) (g3 : o3.guard = none) (g4 : o4.guard = none) (d1 d2 d3 d4 : Option Tmp) (hd1 : dstOf ops k1 = d1) (hd2 : dstOf ops k2 = d2) (hd3 : dstOf ops k3 = d3) (hd4 : dstOf ops k4 = d4)
  (hst1 : o1.op = .store L1 x1 y1) (hn1 : o1.dst = none) (hst2 : o2.op = .store L2 x2 y2) (hn2 : o2.dst = none) (hst3 : o3.op = .store L3 x3 y3) (hn3 : o3.dst = none) (hst4 : o4.op = .store L4 x4 y4) (hn4 : o4.dst = none)
  (hx1 : ∀ p q r s : Nat, ((((aD.put d1 (.pointer (some ⟨p, 0, none⟩))).put d2 (.pointer (some ⟨q, 0, none⟩))).put d3 (.pointer (some ⟨r, 0, none⟩))).put d4 (.pointer (some ⟨s, 0, none⟩))).eval x1 = .pointer (some ⟨p, 0, none⟩)) (hy1 : ∀ p q r s : Nat, ((((aD.put d1 (.pointer (some ⟨p, 0, none⟩))).put d2 (.pointer (some ⟨q, 0, none⟩))).put d3 (.pointer (some ⟨r, 0, none⟩))).put d4 (.pointer (some ⟨s, 0, none⟩))).eval y1 = .agg c1.toArray)
  (hx2 : ∀ p q r s : Nat, ((((aD.put d1 (.pointer (some ⟨p, 0, none⟩))).put d2 (.pointer (some ⟨q, 0, none⟩))).put d3 (.pointer (some ⟨r, 0, none⟩))).put d4 (.pointer (some ⟨s, 0, none⟩))).eval x2 = .pointer (some ⟨q, 0, none⟩)) (hy2 : ∀ p q r s : Nat, ((((aD.put d1 (.pointer (some ⟨p, 0, none⟩))).put d2 (.pointer (some ⟨q, 0, none⟩))).put d3 (.pointer (some ⟨r, 0, none⟩))).put d4 (.pointer (some ⟨s, 0, none⟩))).eval y2 = .agg c2.toArray)
  (hx3 : ∀ p q r s : Nat, ((((aD.put d1 (.pointer (some ⟨p, 0, none⟩))).put d2 (.pointer (some ⟨q, 0, none⟩))).put d3 (.pointer (some ⟨r, 0, none⟩))).put d4 (.pointer (some ⟨s, 0, none⟩))).eval x3 = .pointer (some ⟨r, 0, none⟩)) (hy3 : ∀ p q r s : Nat, ((((aD.put d1 (.pointer (some ⟨p, 0, none⟩))).put d2 (.pointer (some ⟨q, 0, none⟩))).put d3 (.pointer (some ⟨r, 0, none⟩))).put d4 (.pointer (some ⟨s, 0, none⟩))).eval y3 = .agg c3.toArray)
  (hx4 : ∀ p q r s : Nat, ((((aD.put d1 (.pointer (some ⟨p, 0, none⟩))).put d2 (.pointer (some ⟨q, 0, none⟩))).put d3 (.pointer (some ⟨r, 0, none⟩))).put d4 (.pointer (some ⟨s, 0, none⟩))).eval x4 = .pointer (some ⟨s, 0, none⟩)) (hy4 : ∀ p q r s : Nat, ((((aD.put d1 (.pointer (some ⟨p, 0, none⟩))).put d2 (.pointer (some ⟨q, 0, none⟩))).put d3 (.pointer (some ⟨r, 0, none⟩))).put d4 (.pointer (some ⟨s, 0, none⟩))).eval y4 = .agg c4.toArray)
  (hi1 : (P.info? L1).map (·.size) = some c1.toArray.size) (hz1 : z1.toArray.size = c1.toArray.size) (ho1 : c1.toArray.all (·.oneCell') = true) (hi2 : (P.info? L2).map (·.size) = some c2.toArray.size) (hz2 : z2.toArray.size = c2.toArray.size) (ho2 : c2.toArray.all (·.oneCell') = true) (hi3 : (P.info? L3).map (·.size) = some c3.toArray.size) (hz3 : z3.toArray.size = c3.toArray.size) (ho3 : c3.toArray.all (·.oneCell') = true) (hi4 : (P.info? L4).map (·.size) = some c4.toArray.size) (hz4 : z4.toArray.size = c4.toArray.size) (ho4 : c4.toArray.all (·.oneCell') = true)
  (hend : ∀ (p q r s : Nat) w, S w → B ≤ p → B ≤ q → B ≤ r → B ≤ s → p ≠ q → p ≠ r → p ≠ s → q ≠ r → q ≠ s → r ≠ s → Row w p T1 c1 → Row w q T2 c2 → Row w r T3 c3 → Row w s T4 c4 → Q .normal ((((aD.put d1 (.pointer (some ⟨p, 0, none⟩))).put d2 (.pointer (some ⟨q, 0, none⟩))).put d3 (.pointer (some ⟨r, 0, none⟩))).put d4 (.pointer (some ⟨s, 0, none⟩))) w) : (Code.region id ops true).wp P Q a0 w0 := by
 refine wp_vars (B := B) (vars := [⟨some k1, 0, T1, z1, c1, s1⟩, ⟨some k2, 0, T2, z2, c2, s2⟩, ⟨some k3, 0, T3, z3, c3, s3⟩, ⟨some k4, 0, T4, z4, c4, s4⟩]) hm hS0 hD ?_ ?_ hk hSB ?_ hB ?_ ?_ ?_
 ·intro v hv k hk'
  rcases List.mem_cons.1 hv with rfl | hv
  ·cases hk'; exact hA1
  ·
   rcases List.mem_cons.1 hv with rfl | hv
   ·cases hk'; exact hA2
   ·
    rcases List.mem_cons.1 hv with rfl | hv
    ·cases hk'; exact hA3
    ·
     obtain rfl := List.mem_singleton.1 hv
     cases hk'; exact hA4
 ·have hp : ∀ gs : Nat → Nat, putVars ops gs (allocsOf [⟨some k1, 0, T1, z1, c1, s1⟩, ⟨some k2, 0, T2, z2, c2, s2⟩, ⟨some k3, 0, T3, z3, c3, s3⟩, ⟨some k4, 0, T4, z4, c4, s4⟩]) aD = (((aD.put d1 (.pointer (some ⟨gs k1, 0, none⟩))).put d2 (.pointer (some ⟨gs k2, 0, none⟩))).put d3 (.pointer (some ⟨gs k3, 0, none⟩))).put d4 (.pointer (some ⟨gs k4, 0, none⟩)) := fun gs => by
   simp only [allocsOf, List.filterMap_cons, List.filterMap_nil, putVars, hd1, hd2, hd3, hd4]
  intro v hv
  rcases List.mem_cons.1 hv with rfl | hv
  ·exact ⟨o1, L1, x1, y1, h1, g1, hn1, hst1, fun gs => (congrArg (fun b : Act => b.eval x1) (hp gs)).trans (hx1 _ _ _ _), fun gs => (congrArg (fun b : Act => b.eval y1) (hp gs)).trans (hy1 _ _ _ _), hi1, hz1, ho1⟩
  ·
   rcases List.mem_cons.1 hv with rfl | hv
   ·exact ⟨o2, L2, x2, y2, h2, g2, hn2, hst2, fun gs => (congrArg (fun b : Act => b.eval x2) (hp gs)).trans (hx2 _ _ _ _), fun gs => (congrArg (fun b : Act => b.eval y2) (hp gs)).trans (hy2 _ _ _ _), hi2, hz2, ho2⟩
   ·
    rcases List.mem_cons.1 hv with rfl | hv
    ·exact ⟨o3, L3, x3, y3, h3, g3, hn3, hst3, fun gs => (congrArg (fun b : Act => b.eval x3) (hp gs)).trans (hx3 _ _ _ _), fun gs => (congrArg (fun b : Act => b.eval y3) (hp gs)).trans (hy3 _ _ _ _), hi3, hz3, ho3⟩
    ·
     obtain rfl := List.mem_singleton.1 hv
     exact ⟨o4, L4, x4, y4, h4, g4, hn4, hst4, fun gs => (congrArg (fun b : Act => b.eval x4) (hp gs)).trans (hx4 _ _ _ _), fun gs => (congrArg (fun b : Act => b.eval y4) (hp gs)).trans (hy4 _ _ _ _), hi4, hz4, ho4⟩
 ·intro w g cs hS hg
  refine hSR w g cs hS (hg.resolve_right ?_)
  rintro ⟨v, hv, hva, _⟩
  rcases List.mem_cons.1 hv with rfl | hv
  ·cases hva
  ·
   rcases List.mem_cons.1 hv with rfl | hv
   ·cases hva
   ·
    rcases List.mem_cons.1 hv with rfl | hv
    ·cases hva
    ·
     obtain rfl := List.mem_singleton.1 hv
     cases hva
 ·intro v hv v' hv' hva
  rcases List.mem_cons.1 hv with rfl | hv
  ·cases hva
  ·
   rcases List.mem_cons.1 hv with rfl | hv
   ·cases hva
   ·
    rcases List.mem_cons.1 hv with rfl | hv
    ·cases hva
    ·
     obtain rfl := List.mem_singleton.1 hv
     cases hva
 ·intro v hv hva
  rcases List.mem_cons.1 hv with rfl | hv
  ·cases hva
  ·
   rcases List.mem_cons.1 hv with rfl | hv
   ·cases hva
   ·
    rcases List.mem_cons.1 hv with rfl | hv
    ·cases hva
    ·
     obtain rfl := List.mem_singleton.1 hv
     cases hva
 ·intro gs w hS' hnew hrows hap
  have hp : putVars ops gs (allocsOf [⟨some k1, 0, T1, z1, c1, s1⟩, ⟨some k2, 0, T2, z2, c2, s2⟩, ⟨some k3, 0, T3, z3, c3, s3⟩, ⟨some k4, 0, T4, z4, c4, s4⟩]) aD = (((aD.put d1 (.pointer (some ⟨gs k1, 0, none⟩))).put d2 (.pointer (some ⟨gs k2, 0, none⟩))).put d3 (.pointer (some ⟨gs k3, 0, none⟩))).put d4 (.pointer (some ⟨gs k4, 0, none⟩)) := by
   simp only [allocsOf, List.filterMap_cons, List.filterMap_nil, putVars, hd1, hd2, hd3, hd4]
  rw [hp]
  exact hend _ _ _ _ w hS' (hnew ⟨some k1, 0, T1, z1, c1, s1⟩ (by simp) k1 rfl) (hnew ⟨some k2, 0, T2, z2, c2, s2⟩ (by simp) k2 rfl) (hnew ⟨some k3, 0, T3, z3, c3, s3⟩ (by simp) k3 rfl) (hnew ⟨some k4, 0, T4, z4, c4, s4⟩ (by simp) k4 rfl) (hap ⟨some k1, 0, T1, z1, c1, s1⟩ (by simp) ⟨some k2, 0, T2, z2, c2, s2⟩ (by simp) hs12) (hap ⟨some k1, 0, T1, z1, c1, s1⟩ (by simp) ⟨some k3, 0, T3, z3, c3, s3⟩ (by simp) hs13) (hap ⟨some k1, 0, T1, z1, c1, s1⟩ (by simp) ⟨some k4, 0, T4, z4, c4, s4⟩ (by simp) hs14) (hap ⟨some k2, 0, T2, z2, c2, s2⟩ (by simp) ⟨some k3, 0, T3, z3, c3, s3⟩ (by simp) hs23) (hap ⟨some k2, 0, T2, z2, c2, s2⟩ (by simp) ⟨some k4, 0, T4, z4, c4, s4⟩ (by simp) hs24) (hap ⟨some k3, 0, T3, z3, c3, s3⟩ (by simp) ⟨some k4, 0, T4, z4, c4, s4⟩ (by simp) hs34)
   (hrows ⟨some k1, 0, T1, z1, c1, s1⟩ (by simp)) (hrows ⟨some k2, 0, T2, z2, c2, s2⟩ (by simp)) (hrows ⟨some k3, 0, T3, z3, c3, s3⟩ (by simp)) (hrows ⟨some k4, 0, T4, z4, c4, s4⟩ (by simp))
end
end
end
theorem laidVar_at {P : Program} {w : World} : ∀ {l : List (String × DataW Unit)} {ps : List MemPlace}, DataW.LaidVars P w l ps → ∀ n d, (n, d) ∈ l →
  ∃ g t cs fuel p, P.globalNamed n = some g ∧ (P.globals[g]?).map (·.type) = some t ∧ w.var? P n = some cs ∧ DataW.trod (fun _ => ()) P w 0 (fun _ => true) false fuel t cs.toList = some (d, p) ∧ ∀ x ∈ MemPlace.row ⟨g, 0, none⟩ cs.size, x ∈ ps
 | [], _, _, _, _, hm => by cases hm
 | (n', d') :: r, ps, h, n, d, hm => by
  obtain ⟨g, t, cs, fuel, p, q, h1, h2, h3, h4, h5, h6⟩ := h
  subst h6
  rcases List.mem_cons.1 hm with e | e
  ·cases e
   exact ⟨g, t, cs, fuel, p, h1, h2, h3, h4, fun x hx => List.mem_append_left _ (List.mem_append_left _ hx)⟩
  ·obtain ⟨g', t', cs', fuel', p', a1, a2, a3, a4, a5⟩ := laidVar_at h5 n d e
   exact ⟨g', t', cs', fuel', p', a1, a2, a3, a4, fun x hx => List.mem_append_right _ (a5 x hx)⟩
theorem table_of_laid {P : Program} {W : World} {l : List (String × DataW Unit)} (h : laidMet P l W) {name : String} {k : IntKind} {zs : List Int} (hm : (name, Lib.tabData k zs) ∈ l) {g : Nat} {t e : TypeId} {n : Nat}
  (hg : P.globalNamed name = some g) (hty : (P.globals[g]?).map (·.type) = some t) (ht : P.underlying t = some (.array n e)) (he : P.underlying e = some (.int k)) (hce : P.cellsOf e = 1) (hct : P.cellsOf t = n) (h0 : 0 < zs.length) :
  ∃ c t', W.heap[g]? = some (.cells c t' (0, 0)) ∧ ∀ i, i < zs.length → c[i]? = some (.int k (zs.getD i 0)) := by
 obtain ⟨ps, hv, _, hrow⟩ := h
 obtain ⟨g', t1, cs, fuel, p, h1, h2, h3, h4, h5⟩ := laidVar_at hv name _ hm
 obtain rfl := Option.some.inj (hg.symm.trans h1)
 obtain rfl := Option.some.inj (hty.symm.trans h2)
 have hcs := Lib.cells_of_tab ht he hce hct h4
 have hsz : cs.size = zs.length := by rw [← Array.length_toList, hcs, List.length_map]
 obtain ⟨⟨c, t', hc⟩, _⟩ := hrow g 0 (h5 _ (by
  unfold MemPlace.row
  refine List.mem_map.2 ⟨0, List.mem_range.2 (by omega), ?_⟩
  rfl))
 refine ⟨c, t', hc, fun i hi => ?_⟩
 have hcell := World.var?_cell hg h3 i
 rw [cell_of_row W g i _ _ _ hc, ← Array.getElem?_toList, ← Array.getElem?_toList] at hcell
 rw [← Array.getElem?_toList, hcell, hcs, List.getElem?_map, List.getD, List.getElem?_eq_getElem hi]
 rfl
theorem row_of_laid {P : Program} {W : World} {l : List (String × DataW Unit)} (h : laidMet P l W) {name : String} {k : IntKind} {zs : List Int} (hm : (name, Lib.tabData k zs) ∈ l) {g : Nat} {t e : TypeId} {n : Nat}
  (hg : P.globalNamed name = some g) (hty : (P.globals[g]?).map (·.type) = some t) (ht : P.underlying t = some (.array n e)) (he : P.underlying e = some (.int k)) (hce : P.cellsOf e = 1) (hct : P.cellsOf t = n) (h0 : 0 < zs.length) :
  ∃ t', W.heap[g]? = some (.cells (zs.map (Value.int k)).toArray t' (0, 0)) := by
 obtain ⟨ps, hv, _, hrow⟩ := h
 obtain ⟨g', t1, cs, fuel, p, h1, h2, h3, h4, h5⟩ := laidVar_at hv name _ hm
 obtain rfl := Option.some.inj (hg.symm.trans h1)
 obtain rfl := Option.some.inj (hty.symm.trans h2)
 have hcs := Lib.cells_of_tab ht he hce hct h4
 have hsz : cs.size = zs.length := by rw [← Array.length_toList, hcs, List.length_map]
 obtain ⟨⟨c, t', hc⟩, _⟩ := hrow g 0 (h5 _ (by
  unfold MemPlace.row
  refine List.mem_map.2 ⟨0, List.mem_range.2 (by omega), ?_⟩
  rfl))
 have hall : c = cs := by
  refine Array.ext_getElem? fun i => ?_
  have hcell := World.var?_cell hg h3 i
  rwa [cell_of_row W g i _ _ _ hc] at hcell
 refine ⟨t', ?_⟩
 rw [hc, hall, ← hcs]
def Ny (l : List Nat) : List Value := l.map fun x => .int .u8 ((x : Nat) : Int)
theorem Ny_len (l : List Nat) : (Ny l).length = l.length := by simp [Ny]
theorem Ny_get (l : List Nat) (k : Nat) : (Ny l)[k]? = l[k]?.map fun x => .int .u8 ((x : Nat) : Int) := by simp [Ny]
theorem Ny_append (l m : List Nat) : Ny (l ++ m) = Ny l ++ Ny m := by simp [Ny]
theorem Ny_one (l : List Nat) : ∀ u ∈ Ny l, u.oneCell' = true := by
 intro u hu
 simp only [Ny, List.mem_map] at hu
 obtain ⟨c, _, rfl⟩ := hu
 rfl
end Go.Proofs.YtnpjecdodhkplaaGreatDoor
