/- Trees that lie within certain blocks. What reading a record's parts keeps: each part that was read stands in blocks that no later step changes. Rows of a call's own, two at once; what an append and a store leave. The fields of a record read. -/
import Derived.Test.YtmiadkhfjkaidaaGreatDoorMg15
import Derived.Test.YtmiadkhfjkaidaaGreatDoorMg17
namespace Go.Proofs.YtmiadkhfjkaidaaGreatDoor
section
set_option maxRecDepth 100000
set_option linter.unusedSimpArgs false
set_option linter.unusedVariables false
open Go.RowKit

def PartsX (X : Nat → Prop) (w : World) (s : Nat) (c : Option Addr) (n : Nat) (css : Nat → List Value) : Prop :=
  0 < n → ∃ ad, c = some ad ∧ X ad.block ∧ ad.block < w.heap.size ∧ ∀ j, j < n → (css j).length = s ∧ ∀ i u, (css j)[i]? = some u → w.cell? (ad.add (j * s + i)) = some u
inductive VIn (X : Nat → Prop) (w : World) : Vt → List Value → Prop
  | mk {k n : Int} {s : ByteArray} {names : List ByteArray} {ids : List Int} {len : Nat} {parts : Nat → Vt} {a b c : Option Addr} {la ca lb cb cc : Nat} (css : Nat → List Value)
      (hk : (Lit.int .i64 k).wf = true) (hn : (Lit.int .i64 n).wf = true) (hs : s.size ≤ maxLen)
      (h1 : Rd w X a la (names.map Value.string)) (h1c : la ≤ ca ∧ ca ≤ maxLen) (hss : ∀ x ∈ names, x.size ≤ maxLen)
      (h2 : Rd w X b lb (ids.map (Value.int .u64))) (h2c : lb ≤ cb ∧ cb ≤ maxLen) (hi : ∀ x ∈ ids, (Lit.int .u64 x).wf = true)
      (h3 : PartsX X w 6 c len css) (h3c : len ≤ cc ∧ cc ≤ maxLen) (h : ∀ j, j < len → VIn X w (parts j) (css j)) :
      VIn X w (.mk k n s names ids len parts) [.int .i64 k, .int .i64 n, .string s, .slice a la ca, .slice b lb cb, .slice c len cc]
inductive SIn (X : Nat → Prop) (w : World) : St → List Value → Prop
  | mk {k : Int} {words : List ByteArray} {len : Nat} {parts : Nat → St} {a c : Option Addr} {la ca cc : Nat} (css : Nat → List Value)
      (hk : (Lit.int .i64 k).wf = true)
      (h1 : Rd w X a la (words.map Value.string)) (h1c : la ≤ ca ∧ ca ≤ maxLen) (hss : ∀ x ∈ words, x.size ≤ maxLen)
      (h3 : PartsX X w 3 c len css) (h3c : len ≤ cc ∧ cc ≤ maxLen) (h : ∀ j, j < len → SIn X w (parts j) (css j)) :
      SIn X w (.mk k words len parts) [.int .i64 k, .slice a la ca, .slice c len cc]
theorem Rd.weak {w : World} {X Y : Nat → Prop} {a : Option Addr} {n : Nat} {l : List Value} (h : Rd w X a n l) (hY : ∀ g, X g → Y g) : Rd w Y a n l := ⟨h.1, fun hn => by
  obtain ⟨ad, e, hx, hlt, hc⟩ := h.2 hn
  exact ⟨ad, e, hY _ hx, hlt, hc⟩⟩
/-- What lies in blocks that stay as they are stays as it is. -/
theorem Rd.kept {w w' : World} {X Y : Nat → Prop} {a : Option Addr} {n : Nat} {l : List Value} (h : Rd w X a n l) (hs : w.heap.size ≤ w'.heap.size) (hY : ∀ g, X g → g < w.heap.size → Y g ∧ w'.heap[g]? = w.heap[g]?) : Rd w' Y a n l := ⟨h.1, fun hn => by
  obtain ⟨ad, e, hx, hlt, hc⟩ := h.2 hn
  obtain ⟨hy, hh⟩ := hY _ hx hlt
  exact ⟨ad, e, hy, Nat.lt_of_lt_of_le hlt hs, fun j u hu => (World.cell?_of_block (a := ad.add j) (by rw [add_block]; exact hh)).trans (hc j u hu)⟩⟩
theorem PartsX.kept {w w' : World} {X Y : Nat → Prop} {s : Nat} {c : Option Addr} {n : Nat} {css : Nat → List Value} (h : PartsX X w s c n css) (hs : w.heap.size ≤ w'.heap.size) (hY : ∀ g, X g → g < w.heap.size → Y g ∧ w'.heap[g]? = w.heap[g]?) : PartsX Y w' s c n css := fun hn => by
  obtain ⟨ad, e, hx, hlt, hc⟩ := h hn
  obtain ⟨hy, hh⟩ := hY _ hx hlt
  exact ⟨ad, e, hy, Nat.lt_of_lt_of_le hlt hs, fun j hj => ⟨(hc j hj).1, fun i u hu => (World.cell?_of_block (a := ad.add (j * s + i)) (by rw [add_block]; exact hh)).trans ((hc j hj).2 i u hu)⟩⟩
theorem VIn.kept {w w' : World} {X Y : Nat → Prop} (hs : w.heap.size ≤ w'.heap.size) (hY : ∀ g, X g → g < w.heap.size → Y g ∧ w'.heap[g]? = w.heap[g]?) : ∀ {v : Vt} {cs : List Value}, VIn X w v cs → VIn Y w' v cs := by
  intro v cs h
  induction h with
  | mk css hk hn hsz h1 h1c hss h2 h2c hi h3 h3c _ ih => exact .mk css hk hn hsz (Rd.kept h1 hs hY) h1c hss (Rd.kept h2 hs hY) h2c hi (h3.kept hs hY) h3c ih
theorem SIn.kept {w w' : World} {X Y : Nat → Prop} (hs : w.heap.size ≤ w'.heap.size) (hY : ∀ g, X g → g < w.heap.size → Y g ∧ w'.heap[g]? = w.heap[g]?) : ∀ {v : St} {cs : List Value}, SIn X w v cs → SIn Y w' v cs := by
  intro v cs h
  induction h with
  | mk css hk h1 h1c hss h3 h3c _ ih => exact .mk css hk (Rd.kept h1 hs hY) h1c hss (h3.kept hs hY) h3c ih
theorem PartsX.plain {w : World} {X : Nat → Prop} {s : Nat} {c : Option Addr} {n : Nat} {css : Nat → List Value} (h : PartsX X w s c n css) : Parts w s c n css := fun hn => by
  obtain ⟨ad, e, _, hlt, hc⟩ := h hn
  exact ⟨ad, e, hlt, hc⟩
theorem VIn.vat {w : World} {X : Nat → Prop} : ∀ {v : Vt} {cs : List Value}, VIn X w v cs → VAt w v cs := by
  intro v cs h
  induction h with
  | mk css hk hn hsz h1 h1c hss h2 h2c hi h3 h3c _ ih => exact .mk css hk hn hsz (Rd.weak h1 fun _ _ => trivial) h1c hss (Rd.weak h2 fun _ _ => trivial) h2c hi h3.plain h3c ih
theorem SIn.sat {w : World} {X : Nat → Prop} : ∀ {v : St} {cs : List Value}, SIn X w v cs → SAt w v cs := by
  intro v cs h
  induction h with
  | mk css hk h1 h1c hss h3 h3c _ ih => exact .mk css hk (Rd.weak h1 fun _ _ => trivial) h1c hss h3.plain h3c ih
theorem VIn.length {w : World} {X : Nat → Prop} {v : Vt} {cs : List Value} (h : VIn X w v cs) : cs.length = 6 := by cases h; rfl
theorem SIn.length {w : World} {X : Nat → Prop} {v : St} {cs : List Value} (h : SIn X w v cs) : cs.length = 3 := by cases h; rfl
theorem VIn.weak {w : World} {X Y : Nat → Prop} (hY : ∀ g, X g → Y g) {v : Vt} {cs : List Value} (h : VIn X w v cs) : VIn Y w v cs := h.kept (Nat.le_refl _) fun g hx _ => ⟨hY g hx, rfl⟩
/-- One without lists. -/
theorem VIn.bare (X : Nat → Prop) (w : World) (k n : Int) (s : ByteArray) (parts : Nat → Vt) (hk : (Lit.int .i64 k).wf = true) (hn : (Lit.int .i64 n).wf = true) (hs : s.size ≤ maxLen) :
    VIn X w (.mk k n s [] [] 0 parts) [.int .i64 k, .int .i64 n, .string s, .slice none 0 0, .slice none 0 0, .slice none 0 0] :=
  .mk (fun _ => []) hk hn hs (Rd.nil _ _ _) ⟨Nat.le_refl _, Nat.zero_le _⟩ (fun _ h => by cases h) (Rd.nil _ _ _) ⟨Nat.le_refl _, Nat.zero_le _⟩ (fun _ h => by cases h) (fun h => absurd h (Nat.lt_irrefl 0)) ⟨Nat.le_refl _, Nat.zero_le _⟩ (fun j h => absurd h (Nat.not_lt_zero j))
/-- What the call's own row says. -/
theorem own_rd {w : World} {B : Nat} {T : TypeId} {v : Value} {n : Nat} {l : List Value} (h : w.ownsRow B T 1 v n l) : ∃ a cap, v = .slice a n cap ∧ Rd w (fun g => B ≤ g) a n l ∧ (n ≤ cap ∧ cap ≤ maxLen) ∧ (0 < n → a.map (·.block) = v.ownBlock) := by
  have hlt := h.lt
  rcases h.2 with ⟨rfl, rfl⟩ | ⟨g, cap, cur, rfl, hb, hg, hnc, hcm, _, _⟩
  · refine ⟨none, 0, rfl, ⟨by have := h.1; simpa using this, fun h0 => absurd h0 (Nat.lt_irrefl 0)⟩, ⟨Nat.le_refl _, Nat.zero_le _⟩, fun h0 => absurd h0 (Nat.lt_irrefl 0)⟩
  · refine ⟨some ⟨g, 0, none⟩, cap, rfl, ⟨by have := h.1; simpa using this, fun _ => ⟨_, rfl, hb, (hlt g rfl).2, fun j u hu => h.cells (g := g) rfl j u hu⟩⟩, ⟨hnc, hcm⟩, fun _ => rfl⟩
theorem flat_len {s : Nat} {css : Nat → List Value} : ∀ {n : Nat}, (∀ j, j < n → (css j).length = s) → ((List.range n).flatMap css).length = n * s
  | 0, _ => by simp
  | n + 1, h => by
    rw [List.range_succ, List.flatMap_append, List.length_append, flat_len (fun j hj => h j (by omega))]
    simp only [List.flatMap_cons, List.flatMap_nil, List.append_nil]
    rw [h n (by omega), Nat.succ_mul]
theorem flat_get {s : Nat} {css : Nat → List Value} : ∀ {n : Nat}, (∀ j, j < n → (css j).length = s) → ∀ {j i : Nat} {u : Value}, j < n → (css j)[i]? = some u → ((List.range n).flatMap css)[j * s + i]? = some u
  | 0, _, j, _, _, hj, _ => by omega
  | n + 1, h, j, i, u, hj, hu => by
    have hi : i < s := by have := (List.getElem?_eq_some_iff.1 hu).1; rw [h j hj] at this; exact this
    have hl := flat_len (fun j (hj : j < n) => h j (by omega))
    rw [List.range_succ, List.flatMap_append]
    by_cases hjn : j < n
    · rw [List.getElem?_append_left (by rw [hl]; have := Nat.mul_le_mul_right s (show j + 1 ≤ n by omega); rw [Nat.succ_mul] at this; omega)]
      exact flat_get (fun j hj => h j (by omega)) hjn hu
    · obtain rfl : j = n := by omega
      rw [List.getElem?_append_right (by rw [hl]; omega), hl, Nat.add_sub_cancel_left]
      simpa using hu
theorem own_parts {w : World} {B s : Nat} {T : TypeId} {v : Value} {n : Nat} {css : Nat → List Value} (hs : ∀ j, j < n → (css j).length = s) (h : w.ownsRow B T s v n ((List.range n).flatMap css)) :
    ∃ a cap, v = .slice a n cap ∧ PartsX (fun g => B ≤ g) w s a n css ∧ (n ≤ cap ∧ cap ≤ maxLen) := by
  have hlt := h.lt
  rcases h.2 with ⟨rfl, rfl⟩ | ⟨g, cap, cur, rfl, hb, hg, hnc, hcm, _, _⟩
  · exact ⟨none, 0, rfl, fun h0 => absurd h0 (Nat.lt_irrefl 0), ⟨Nat.le_refl _, Nat.zero_le _⟩⟩
  · exact ⟨some ⟨g, 0, none⟩, cap, rfl, fun _ => ⟨_, rfl, hb, (hlt g rfl).2, fun j hj => ⟨hs j hj, fun i u hu => h.cells (g := g) rfl (j * s + i) u (flat_get hs hj hu)⟩⟩, ⟨hnc, hcm⟩⟩
end

section
set_option maxRecDepth 100000
set_option linter.unusedSimpArgs false
set_option linter.unusedVariables false
open Go.RowKit

/-- A part that was read: it stands in blocks behind B, and in none of these two rows. -/
def PIn (B : Nat) (w : World) (u v : Value) (s : Vt) (cs : List Value) : Prop :=
  ∃ X : Nat → Prop, VIn X w s cs ∧ ∀ b, X b → B ≤ b ∧ b < w.heap.size ∧ u.ownBlock ≠ some b ∧ v.ownBlock ≠ some b
/-- What changes nothing but what lies ahead of B and these two rows keeps it. -/
theorem PIn.only {B : Nat} {w w' : World} {u v u' v' : Value} {s : Vt} {cs : List Value} (h : PIn B w u v s cs) {S : Nat → Prop} (ho : Only S w w') (hS : ∀ b, S b → b < B ∨ u.ownBlock = some b ∨ v.ownBlock = some b)
    (hu : u'.ownBlock = u.ownBlock ∨ ∃ b, u'.ownBlock = some b ∧ w.heap.size ≤ b) (hv : v'.ownBlock = v.ownBlock ∨ ∃ b, v'.ownBlock = some b ∧ w.heap.size ≤ b) : PIn B w' u' v' s cs := by
  obtain ⟨X, h1, h2⟩ := h
  refine ⟨X, h1.kept ho.size fun b hX hb => ⟨hX, ho.block b hb fun hs => ?_⟩, fun b hX => ?_⟩
  · obtain ⟨a1, a2, a3, a4⟩ := h2 b hX
    rcases hS b hs with e | e | e
    · omega
    · exact a3 e
    · exact a4 e
  · obtain ⟨a1, a2, a3, a4⟩ := h2 b hX
    refine ⟨a1, Nat.lt_of_lt_of_le a2 ho.size, ?_, ?_⟩
    · rcases hu with e | ⟨b', e, hb'⟩
      · rw [e]; exact a3
      · rw [e]; intro e'; injection e' with e'; omega
    · rcases hv with e | ⟨b', e, hb'⟩
      · rw [e]; exact a4
      · rw [e]; intro e'; injection e' with e'; omega
theorem PIn.sat {B : Nat} {w : World} {u v : Value} {s : Vt} {cs : List Value} (h : PIn B w u v s cs) : VAt w s cs := by
  obtain ⟨X, h1, _⟩ := h
  exact h1.vat
end

section
set_option maxRecDepth 100000
set_option linter.unusedSimpArgs false
set_option linter.unusedVariables false
open Go.RowKit

theorem late_ok {b : Bool} {p : Prop} (h : (b == false) = true) : b = true → p := fun e => by rw [e] at h; cases h
theorem str_info : (Tryz.prog.info? 9).map (fun i => (i.zero, i.size, i.bytes)) = some (some (.string ByteArray.empty), 1, 16) := by kernel_rfl
theorem val_info : (Tryz.prog.info? 28).map (fun i => (i.zero, i.size, i.bytes)) = some (some (.agg #[.int .i64 0, .int .i64 0, .string ByteArray.empty, .slice none 0 0, .slice none 0 0, .slice none 0 0]), 6, 104) := by kernel_rfl
theorem info3 {P : Program} {t : TypeId} {z : Option Value} {s b : Nat} (h : (P.info? t).map (fun i => (i.zero, i.size, i.bytes)) = some (z, s, b)) : ∃ i, P.info? t = some i ∧ i.zero = z ∧ i.size = s ∧ i.bytes = b := by
  cases hi : P.info? t with
  | none => rw [hi] at h; cases h
  | some i =>
    rw [hi] at h
    simp only [Option.map_some, Option.some.injEq, Prod.mk.injEq] at h
    exact ⟨i, rfl, h.1, h.2.1, h.2.2⟩
theorem Reads.load_at {P : Program} {S : World → Prop} {o : Oper} {a : Act} (ty : TypeId) (x : Operand) (ho : o.op = .load ty x) (ad : Addr) (hx : a.eval x = .pointer (some ad)) (cs : List Value) (d : TypeDesc) (hS : ∀ w, S w → ∀ j v, cs[j]? = some v → w.cell? (ad.add j) = some v)
    (hu : P.underlying ty = some d) (hd : rowD d = true) (hi : (P.info? ty).map (·.size) = some cs.length) : Reads P S o (.agg cs.toArray) a := fun w hw => by
  unfold execOp
  simp only [ho, hx, Instr.loadAt, Instr.sureAddr, Sem.run_bind, Sem.run_pure, Result.andThen_ok, run_loadVar_at w ad ty cs d (hS w hw) hu hd hi]
theorem mk_str (x : ByteArray) (w : World) : (Instr.buildSlice 24 1 #[(0, .string x)]).run Tryz.prog w = .ok (.slice (some ⟨w.heap.size, 0, none⟩) 1 1) (w.alloc (.cells #[.string x] 9)) := by
  go_simp
theorem mk_val {ds : List Value} (h : ds.length = 6) (w : World) : (Instr.buildSlice 26 1 #[(0, .agg ds.toArray)]).run Tryz.prog w = .ok (.slice (some ⟨w.heap.size, 0, none⟩) 1 1) (w.alloc (.cells ds.toArray 28)) := by
  obtain ⟨i, hi, hz, hs, hb⟩ := info3 val_info
  refine run_buildSlice w _ _ 1 _ _ i _ Tryz.underlying26 hi hz (by rw [hs]; decide) (by rw [hs]; decide) ?_
  rw [hs]
  have := Go.Great.fill_whole (s := 6) (by omega) [Value.agg ds.toArray] ((Array.range (1 * 6)).map ((Value.agg #[.int .i64 0, .int .i64 0, .string ByteArray.empty, .slice none 0 0, .slice none 0 0, .slice none 0 0]).cells[· % (Value.agg #[.int .i64 0, .int .i64 0, .string ByteArray.empty, .slice none 0 0, .slice none 0 0, .slice none 0 0]).cells.size]!)) (by intro v hv; simp at hv; subst hv; simpa [Value.cells] using h) (by simp)
  simpa [Value.cells] using this
theorem st_strs {p : Addr} {old v : Value} {w : World} (hc : w.cell? p = some old) (hf : w.frozen? p = false) {a : Option Addr} {n c : Nat} (hv : v = .slice a n c) : (Instr.storeAt 24 (.pointer (some p)) v).run Tryz.prog w = .ok () (w.setCell p v) := by
  subst hv
  go_simp
theorem st_vals {p : Addr} {old v : Value} {w : World} (hc : w.cell? p = some old) (hf : w.frozen? p = false) {a : Option Addr} {n c : Nat} (hv : v = .slice a n c) : (Instr.storeAt 26 (.pointer (some p)) v).run Tryz.prog w = .ok () (w.setCell p v) := by
  subst hv
  go_simp
/-- Rows of unlike elements lie apart. -/
theorem own_ne {w : World} {B B' : Nat} {T T' : TypeId} {s s' : Nat} {v v' : Value} {n n' : Nat} {xs ys : List Value} (h : w.ownsRow B T s v n xs) (k : w.ownsRow B' T' s' v' n' ys) (hT : T ≠ T') : v.ownBlock = none ∨ v.ownBlock ≠ v'.ownBlock := by
  rcases h.2 with ⟨rfl, _⟩ | ⟨g, cap, cur, rfl, _, hg, _⟩
  · exact .inl rfl
  · refine .inr fun e => ?_
    rcases k.2 with ⟨rfl, _⟩ | ⟨g', cap', cur', rfl, _, hg', _⟩
    · cases e
    · simp only [Value.ownBlock, Option.some.injEq] at e
      rw [e, hg'] at hg
      simp only [Option.some.injEq, Obj.cells.injEq] at hg
      exact hT hg.2.1.symm
theorem own_form {w : World} {B : Nat} {T : TypeId} {s : Nat} {v : Value} {n : Nat} {xs : List Value} (h : w.ownsRow B T s v n xs) : ∃ a c, v = .slice a n c := by
  rcases h.2 with ⟨rfl, rfl⟩ | ⟨g, cap, cur, rfl, _⟩
  · exact ⟨_, _, rfl⟩
  · exact ⟨_, _, rfl⟩
theorem own_drew {w : World} {B : Nat} {T : TypeId} {s : Nat} {v : Value} {n : Nat} {xs : List Value} (h : w.ownsRow B T s v n xs) : w.drew.ownsRow B T s v n xs := h
theorem own_set {w : World} {B : Nat} {T : TypeId} {s : Nat} {v : Value} {n : Nat} {xs : List Value} (h : w.ownsRow B T s v n xs) {p : Addr} (hp : p.block < B) (u : Value) : (w.setCell p u).ownsRow B T s v n xs := by
  refine ⟨h.1, ?_⟩
  rcases h.2 with hn | ⟨g, cap, cur, rfl, hb, hg, rest⟩
  · exact .inl hn
  · exact .inr ⟨g, cap, cur, rfl, hb, (Below.heap_setCell _ _ _ _ (by omega)).trans hg, rest⟩
/-- The blocks of two rows. -/
def Own2 (v v' : Value) (g : Nat) : Prop := v.ownBlock = some g ∨ v'.ownBlock = some g
theorem flat_more (css : Nat → List Value) (n : Nat) (ds : List Value) : (List.range (n + 1)).flatMap (fun i => if i = n then ds else css i) = (List.range n).flatMap css ++ ds := by
  rw [List.range_succ, List.flatMap_append]
  simp only [List.flatMap_cons, List.flatMap_nil, List.append_nil, if_true]
  congr 1
  have h : ∀ m, m ≤ n → (List.range m).flatMap (fun i => if i = n then ds else css i) = (List.range m).flatMap css := by
    intro m
    induction m with
    | zero => intro _; rfl
    | succ m ih =>
      intro hm
      rw [List.range_succ, List.flatMap_append, List.flatMap_append, ih (by omega)]
      simp only [List.flatMap_cons, List.flatMap_nil, List.append_nil]
      rw [if_neg (by omega)]
  exact h n (Nat.le_refl _)
theorem take_more (l : List ByteArray) {j : Nat} (h : j < l.length) : (l.take (j + 1)).map Value.string = (l.take j).map Value.string ++ [.string (nth l j)] := by
  rw [List.take_add_one, List.map_append]
  congr 1
  unfold nth
  rw [List.getD, List.getElem?_eq_getElem h]
  rfl
end

section
set_option maxRecDepth 100000
set_option linter.unusedSimpArgs false
set_option linter.unusedVariables false
open Go.RowKit

theorem sch_info_ : (Tryz.prog.info? 28).map (fun i => (i.zero, i.size, i.bytes)) = some (some (.agg #[.int .i64 0, .int .i64 0, .string ByteArray.empty, .slice none 0 0, .slice none 0 0, .slice none 0 0]), 6, 104) := by kernel_rfl
theorem VIn.form {X : Nat → Prop} {w : World} {s : Vt} {cs : List Value} (h : VIn X w s cs) : ∃ (k n : Int) (x : ByteArray) (a : Option Addr) (la ca : Nat) (b : Option Addr) (lb cb : Nat) (c : Option Addr) (lc cc : Nat), cs = [.int .i64 k, .int .i64 n, .string x, .slice a la ca, .slice b lb cb, .slice c lc cc] := by
  cases h
  exact ⟨_, _, _, _, _, _, _, _, _, _, _, _, rfl⟩
def fsB (l : List ByteArray) (parts : Nat → Vt) (n : Nat) : List UInt8 := (List.range n).flatMap fun i => wB (nth l i) ++ (parts i).bytes
theorem fsB_more (l : List ByteArray) (parts : Nat → Vt) (n : Nat) : fsB l parts (n + 1) = fsB l parts n ++ (wB (nth l n) ++ (parts n).bytes) := by
  unfold fsB
  rw [List.range_succ, List.flatMap_append]
  simp
theorem fsB_split (l : List ByteArray) (parts : Nat → Vt) {j : Nat} : ∀ {n : Nat}, j ≤ n → ∃ R, fsB l parts n = fsB l parts j ++ R
  | 0, h => ⟨[], by obtain rfl : j = 0 := by omega
                    simp⟩
  | n + 1, h => by
    by_cases e : j = n + 1
    · subst e
      exact ⟨[], by simp⟩
    · obtain ⟨R, hR⟩ := fsB_split l parts (j := j) (n := n) (by omega)
      exact ⟨R ++ (wB (nth l n) ++ (parts n).bytes), by rw [fsB_more, hR, List.append_assoc]⟩
theorem rise_at {l : List ByteArray} (h : riseB l = true) {j : Nat} (hj : j < l.length) : folB (l.take j) (nth l j) = true := by
  rw [rise_n] at h
  rw [← Bool.not_eq_false]
  intro e
  have h1 : riseN l (j + 1) = false := by rw [riseN_more l (by omega), e, Bool.and_false]
  rw [riseN_no h1 (by omega)] at h
  cases h

/-- What stands at the head of a round. -/
structure RFi (w wr : World) (g : Nat) (A : Option Addr) (c : Nat) (F : Nat → Prop) (k : List UInt8) (p : Nat) (l : List ByteArray) (parts : Nat → Vt) (j : Nat) (v u : Value) (css : Nat → List Value) : Prop where
  box : Row wr w.heap.size 24 [v]
  row : wr.ownsRow (w.heap.size + 1) 9 1 v j ((l.take j).map Value.string)
  prow : wr.ownsRow (w.heap.size + 1) 28 6 u j ((List.range j).flatMap css)
  pin : ∀ i, i < j → PIn (w.heap.size + 1) wr v u (parts i) (css i)
  rd : Readto w wr g A c F k p 0

set_option maxHeartbeats 3200000 in
theorem sfread_any (g : Nat) (A : Option Addr) (c : Nat) (F : Nat → Prop) (k : List UInt8) (p : Nat) (l : List ByteArray) (parts : Nat → Vt) (R : List UInt8) (fq : FuncId) (fn : Func) (caps : Array Value) (w : World) (h : Rr w g A c F k p 0)
    (hfn : Tryz.prog.funcs[fq]? = some fn) (hfm : (fn.name == "runtime.NumGoroutine") = false) (hfb : fn.body.isNone = false)
    (hk : k.drop p = enc l.length ++ (fsB l parts l.length ++ R)) (h8 : l.length ≤ 8) (hw : riseB l = true) (hF : ∀ j, F j → j < g)
    (hP : ∀ j, j < l.length → ∀ (w' : World) (p' : Nat) (R' : List UInt8), Only (fun b => b = g) w w' → Rr w' g A c F k p' 0 → k.drop p' = (parts j).bytes ++ R' →
      Calls Tryz.prog fq caps w' fun e w'' => ∃ cs, e = .returned (.agg cs.toArray) ∧ (∃ X, VIn X w'' (parts j) cs ∧ ∀ b, X b → w'.heap.size ≤ b ∧ b < w''.heap.size) ∧ Readto w' w'' g A c F k (p' + (parts j).bytes.length) 0) :
    Calls Tryz.prog 139 #[.pointer (some ⟨g, 0, none⟩), .func (.func fq) #[] caps] w fun e w' => ∃ v u css, e = .returned (.tuple #[v, u]) ∧ RFi w w' g A c F k (p + ((enc l.length).length + (fsB l parts l.length).length)) l parts l.length v u css := by
  obtain ⟨i0, hi, hz0, hz1, hz2⟩ := info_parts str_info_
  obtain ⟨k0, hi2, hy0, hy1, hy2⟩ := info_parts sch_info_
  have hgl := h.lt
  have HCT := Lib.hid (count_any g A c F k p l.length (fsB l parts l.length ++ R) (w.alloc (.cells #[.slice none 0 0] 24)) (h.below (below_new w _)) hk h8)
  have HK := Lib.hid hk
  have HWD := Lib.hid hw
  have HF := Lib.hid hF
  have HP := Lib.hid hP
  obtain ⟨n, hn⟩ : ∃ n, l.length = n := ⟨_, rfl⟩
  rw [hn] at HCT h8 HK HP ⊢
  have HN := Lib.hid hn
  have HBX := Lib.hid (Row.new w [.slice none 0 0] 24)
  clear h hk hw hn hF hP
  go_enter Tryz.func139, Tryz.ntmps139
  go_wp2_with fail
  refine HCT.out.mono ?_
  rintro e W1 ⟨rfl, hto⟩
  have HBX1 := Lib.hid (HBX.out.only hto.only (by omega))
  have HT := Lib.hid (readto_from hto)
  clear hto
  go_wp2_with fail
  go_loopw [5, 8] (fun u i wr => ∃ (j : Nat) (v : Value) (css : Nat → List Value), j ≤ n ∧ i = .int .i64 (j : Int) ∧ RFi w wr g A c F k (p + ((enc n).length + (fsB l parts j).length)) l parts j v u css) (fun _ i _ => n - (intOf i).toNat)
  case atStart => exact ⟨0, .slice none 0 0, fun _ => [], Nat.zero_le _, rfl, ⟨HBX1.out, World.ownsRow_nil _ _ _ _, World.ownsRow_nil _ _ _ _, fun i hi => absurd hi (Nat.not_lt_zero _), HT.out⟩⟩
  case round =>
    obtain ⟨j, v, css, hjn, rfl, hinv⟩ := hrel
    have HINV := Lib.hid hinv
    have hblt := hinv.box.lt
    clear hinv
    obtain ⟨a, cv, rfl⟩ := own_slice HINV.out.row
    have bj0 : (0 : Int) ≤ (j : Int) := by omega
    by_cases hj : j < n
    · have hji : (j : Int) < (n : Int) := by omega
      have hjl : j < l.length := by rw [HN.out]; exact hj
      have hbc := HINV.out.box.cell (k := 0) rfl
      have hsz : (nth l j).size ≤ 64 := riseB_size HWD.out hjl
      have hnew : folB (l.take j) (nth l j) = true := rise_at HWD.out hjl
      obtain ⟨R2, hR2⟩ := fsB_split l parts (j := j + 1) (n := n) (by omega)
      have hkd : k.drop (p + ((enc n).length + (fsB l parts j).length)) = enc (nth l j).size ++ ((nth l j).data.toList ++ ((parts j).bytes ++ (R2 ++ R))) := by
        rw [← Nat.add_assoc]
        refine drop_more (drop_more ?_)
        rw [HK.out, hR2, fsB_more]
        unfold wB
        simp only [List.append_assoc]
      have hkd2 := Lib.hid hkd
      have hrd : Rd wr.drew (fun q => q ≠ g) a j ((l.take j).map Value.string) := (Rd.of_own (w := wr.drew) HINV.out.row).mono fun q _ hq => by
        have := (HINV.out.row.lt q hq).1
        omega
      have HW := Lib.hid (fword_any g A c F k _ ⟨w.heap.size, 0, none⟩ a j cv (l.take j) (nth l j) ((parts j).bytes ++ (R2 ++ R)) wr.drew (HINV.out.rd.rr.below (Below.refl _ _).drew) hkd hsz (by omega) hnew hbc (by show w.heap.size ≠ g; omega) hrd)
      have HSM := Lib.hid (strs_more l hjl)
      have HWM := Lib.hid (fsB_more l parts j)
      have hwl : (wB (nth l j)).length = (enc (nth l j).size).length + (nth l j).size := by unfold wB; simp
      clear hkd hnew hrd hR2
      generalize nth l j = x at *
      go_wp2_with fail
      refine startT (fun w' => w'.cell? ⟨w.heap.size, 0, none⟩ = some (.slice a j cv)) [5] (by kernel_rfl) ?_
      have hS0 : wr.drew.cell? ⟨w.heap.size, 0, none⟩ = some (.slice a j cv) := hbc
      refine takeT 0 (some 10) rfl rfl (by kernel_rfl) (by kernel_rfl) (fun _ _ _ h => h) (Reads.load 24 (.tmp 4) rfl _ _ rfl (fun w' h => ld_strs_ h rfl)) hS0 ?_
      simp only [Act.put, List.setIfInBounds_toArray, List.set_cons_zero, List.set_cons_succ]
      refine takeT 1 (some 11) rfl rfl (by kernel_rfl) (by kernel_rfl) (fun _ _ _ h => h) (Reads.move (x := .tmp 0) rfl rfl) hS0 ?_
      simp only [Act.put, List.setIfInBounds_toArray, List.set_cons_zero, List.set_cons_succ]
      refine takeT 2 (some 12) (v := .func (.func 173) #[] #[.pointer (some ⟨w.heap.size, 0, none⟩)]) rfl rfl (by kernel_rfl) (by kernel_rfl) (fun _ _ _ h => h) (Reads.makeFunc 173 (.tmp 4) rfl _ rfl (fun w' => mk_func_ _ _ w')) hS0 ?_
      simp only [Act.put, List.setIfInBounds_toArray, List.set_cons_zero, List.set_cons_succ]
      refine oneT 3 (by kernel_rfl) rfl (by kernel_rfl) (fun K hK => ?_)
      refine wp_call_any (args := [.pointer (some ⟨g, 0, none⟩), .func (.func 173) #[] #[.pointer (some ⟨w.heap.size, 0, none⟩)]]) rfl Tryz.func130 (by kernel_rfl) (by kernel_rfl) rfl HW.out ?_
      rintro e W3 ⟨rfl, hto3⟩
      refine ⟨_, rfl, ?_⟩
      have hb3 : Row W3 w.heap.size 24 [.slice a j cv] := (show Row wr.drew w.heap.size 24 [.slice a j cv] from HINV.out.box).only hto3.only (by omega)
      have hS3 := hb3.cell (k := 0) rfl
      have ho3 : W3.ownsRow (w.heap.size + 1) 9 1 (.slice a j cv) j ((l.take j).map Value.string) := own_only (w := wr.drew) HINV.out.row hto3.only (fun q hq e => by have h1 := (HINV.out.row.lt q hq).1; have h2 : q = g := e; omega)
      have ht3 : Readto w W3 g A c F k _ 0 := ⟨hto3.rr, (HINV.out.rd.only.trans (Only.of_below (Below.refl _ _).drew _) fun _ _ h => h).trans hto3.only fun _ _ h => h⟩
      refine hK.out _ _ (fun _ => hS3) ?_
      clear hK K
      change wpAnyT _ _ _ _ _ _ _ _ (Act.put _ (some 13) _) _
      simp only [Act.put, List.setIfInBounds_toArray, List.set_cons_zero, List.set_cons_succ]
      have hb4 := hb3.alloc (.cells #[.string x] 9)
      have ho4 := ho3.alloc (.cells #[.string x] 9)
      have ht4 := readto_new ht3 (.cells #[.string x] 9)
      refine oneT 4 (by kernel_rfl) rfl (by kernel_rfl) (fun K hK => ?_)
      refine wp_slice1 24 9 (.tmp 13) rfl (.string x) rfl #[.string x] (fun w' => mk_str_ x w') ?_
      refine hK.out _ _ (fun _ => hb4.cell (k := 0) rfl) ?_
      clear hK K
      change wpAnyT _ _ _ _ _ _ _ _ (Act.put _ (some 14) _) _
      simp only [Act.put, List.setIfInBounds_toArray, List.set_cons_zero, List.set_cons_succ]
      have hsz3 := hb3.lt
      refine oneT 5 (by kernel_rfl) rfl (by kernel_rfl) (fun K hK => ?_)
      refine wp_append_at (.tmp 10) (.tmp 14) 24 rfl (w.heap.size + 1) 9 i0 (.string ByteArray.empty) 1 16 Tryz.underlying24 hi hz0 hz1 hz2 rfl (by decide) (.slice a j cv) j _ rfl ho4 ⟨W3.heap.size, 0, none⟩ 1 1 [.string x] rfl rfl (Go.cell_one_new W3 (.string x) _) (by intro u hu; simp at hu; subst hu; rfl) (by unfold maxLen; omega) (by omega) (by simp; omega) (fun v5 W5 ho5 hg5 hat5 => ?_)
      refine hK.out _ _ (late_ok_ (by kernel_rfl)) ?_
      clear hK K
      change wpAnyT _ _ _ _ _ _ _ _ (Act.put _ (some 15) _) _
      simp only [Act.put, List.setIfInBounds_toArray, List.set_cons_zero, List.set_cons_succ]
      have hno : ∀ q, (Value.slice a j cv).ownBlock = some q → w.heap.size + 1 ≤ q := fun q hq => (ho4.lt q hq).1
      have ht5 := readto_grown ht4 hgl HF.out hg5 (fun q hq => by have := hno q hq; omega)
      have hb5 : Row W5 w.heap.size 24 [.slice a j cv] := hb4.only (only_grown hg5) (fun e => by have := hno _ e; omega)
      have HA5 := Lib.hid (show v5.ownBlock = (Value.slice a j cv).ownBlock ∨ ∃ b, v5.ownBlock = some b ∧ wr.heap.size ≤ b from hat5.imp id fun e => ⟨_, e, by have h1 := hto3.only.size; have h2 : wr.drew.heap.size = wr.heap.size := rfl; simp; omega⟩)
      clear hat5
      obtain ⟨a5, c5, rfl⟩ := own_slice ho5
      refine oneT 6 (by kernel_rfl) rfl (by kernel_rfl) (fun K hK => ?_)
      refine wp_store_cell 24 (.tmp 4) (.tmp 15) rfl ⟨w.heap.size, 0, none⟩ rfl (.slice a5 (j + 1) c5) rfl (st_strs_ (hb5.cell (k := 0) rfl) (hb5.free 0) rfl) ?_
      refine hK.out _ _ (late_ok_ (by kernel_rfl)) ?_
      clear hK K
      change wpAnyT _ _ _ _ _ _ _ _ (Act.put _ none _) _
      simp only [Act.put, List.setIfInBounds_toArray, List.set_cons_zero, List.set_cons_succ]
      refine doneT (by kernel_rfl) ?_ _
      have hne5 := own_ne HINV.out.row HINV.out.prow (by decide)
      have hO6 : Only (fun b => b = g ∨ b = w.heap.size ∨ (Value.slice a j cv).ownBlock = some b) wr (W5.setCell ⟨w.heap.size, 0, none⟩ (.slice a5 (j + 1) c5)) :=
        (((((Only.of_below (Below.refl _ _).drew _).trans hto3.only fun _ _ h => .inl h).alloc (.cells #[.string x] 9)).trans (only_grown hg5) fun _ _ h => .inr (.inr h))).setCell (.inl (.inr (.inl rfl))) _
      have HO6 := Lib.hid hO6
      have HB6 := Lib.hid (show Row (W5.setCell ⟨w.heap.size, 0, none⟩ (.slice a5 (j + 1) c5)) w.heap.size 24 [.slice a5 (j + 1) c5] from hb5.set 0 _)
      have HR6 := Lib.hid (own_set_ ho5 (p := ⟨w.heap.size, 0, none⟩) (by show w.heap.size < _; omega) (.slice a5 (j + 1) c5))
      have HT6 := Lib.hid (show Readto w (W5.setCell ⟨w.heap.size, 0, none⟩ (.slice a5 (j + 1) c5)) g A c F k (p + ((enc n).length + (fsB l parts j).length) + ((enc x.size).length + x.size)) 0 from
        ⟨ht5.rr.only (Only.setCell (S := fun q => q = w.heap.size) (Only.refl _ _) (.inl rfl) _) (by show ¬ g = w.heap.size; omega) (fun q hq e => by have h1 := HF.out q hq; have h2 : q = w.heap.size := e; omega), ht5.only.trans (Only.setCell (S := fun q => q = w.heap.size) (Only.refl _ _) (.inl rfl) _) fun q hq e => by have h2 : q = w.heap.size := e; omega⟩)
      have HU6 := Lib.hid (own_only HINV.out.prow hO6 (fun q hq h => by
        have h1 := (HINV.out.prow.lt q hq).1
        rcases h with h | h | h
        · omega
        · omega
        · rcases hne5 with e | e
          · rw [e] at h; cases h
          · exact e (h.trans hq.symm)))
      generalize W5.setCell ⟨w.heap.size, 0, none⟩ (.slice a5 (j + 1) c5) = W6 at *
      have hOg : Only (fun b => b = g) w W6 := HT6.out.only
      have hkd3 : k.drop (p + ((enc n).length + (fsB l parts j).length) + ((enc x.size).length + x.size)) = (parts j).bytes ++ (R2 ++ R) := by
        have h1 := drop_more hkd2.out
        have h2 := drop_more h1
        rw [show x.data.toList.length = x.size by simp] at h2
        rw [← Nat.add_assoc]
        exact h2
      have HC := Lib.hid (show Calls Tryz.prog fq (([] : List Value).toArray ++ caps) W6 _ from by simpa using HP.out j hj W6 _ (R2 ++ R) hOg HT6.out.rr hkd3)
      clear hkd3 hOg
      go_wp2_with (refine wpList_call_fn rfl (x := .tmp 17) (xs := []) rfl rfl hfn hfm hfb rfl HC.out ?_)
      intro e W7 ds he X hX hXb hto7
      subst he
      refine ⟨_, rfl, ?_⟩
      obtain ⟨kd, nd, sd, ad, lad, cad, bd, lbd, cbd, ed, led, ced, rfl⟩ := hX.form
      have HX := Lib.hid hX
      have HXB := Lib.hid hXb
      have HT7 := Lib.hid hto7
      have HU7 := Lib.hid (own_only HU6.out hto7.only (fun q hq e => by have h1 := (HU6.out.lt q hq).1; have h2 : q = g := e; omega))
      clear hX hXb hto7
      have HU8 := Lib.hid (HU7.out.alloc (.cells #[.int .i64 kd, .int .i64 nd, .string sd, .slice ad lad cad, .slice bd lbd cbd, .slice ed led ced] 28))
      have HRN := Lib.hid (Row.new W7 [.int .i64 kd, .int .i64 nd, .string sd, .slice ad lad cad, .slice bd lbd cbd, .slice ed led ced] 28)
      have hs67 := HT7.out.only.size
      have hs6 := HT6.out.only.size
      have hb6 := HB6.out.lt
      have hgB : g < w.heap.size := hgl
      go_wp2_with (at_builtin; refine wpList_append_own_at _ rfl (.tmp 16) (.tmp 19) 26 rfl (w.heap.size + 1) 28 k0 (.agg #[.int .i64 0, .int .i64 0, .string ByteArray.empty, .slice none 0 0, .slice none 0 0, .slice none 0 0]) 6 104 Tryz.underlying26 hi2 hy0 hy1 hy2 rfl (by omega) u5 j ((List.range j).flatMap css) rfl HU8.out ⟨W7.heap.size, 0, none⟩ 1 1 [.int .i64 kd, .int .i64 nd, .string sd, .slice ad lad cad, .slice bd lbd cbd, .slice ed led ced] rfl rfl ?cn ?co ?c1 ?c2 ?c3 ?_)
      case cn =>
        intro j u hu
        have ea : (⟨W7.heap.size, 0, none⟩ : Addr).add j = ⟨W7.heap.size, j, none⟩ := by unfold Addr.add; split <;> simp_all
        rw [ea]
        exact HRN.out.cell hu
      case co => intro u hu; simp at hu; rcases hu with rfl | rfl | rfl | rfl | rfl | rfl <;> rfl
      case c1 => unfold maxLen; omega
      case c2 => omega
      case c3 => simp; omega
      intro u9 W9 hown9 hg9 hex9 hat9
      have HO9 := Lib.hid hown9
      have HG9 := Lib.hid hg9
      have HA9 := Lib.hid hat9
      clear hown9 hg9 hat9
      have hu5lt : ∀ q, u5.ownBlock = some q → q < W6.heap.size := fun q hq => (HU6.out.lt q hq).2
      have hv5lt : ∀ q, (Value.slice a5 (j + 1) c5).ownBlock = some q → q < W6.heap.size := fun q hq => (HR6.out.lt q hq).2
      have hu5lo : ∀ q, u5.ownBlock = some q → w.heap.size + 1 ≤ q := fun q hq => (HU6.out.lt q hq).1
      have hs9 := HG9.out.size
      have h89 : W7.heap.size + 1 ≤ W9.heap.size := by simpa using hs9
      have h9 : Only (fun q => u5.ownBlock = some q) W7 W9 := ((Only.refl _ _).alloc _).trans (only_grown HG9.out) fun _ _ h => h
      have h69 : Only (fun q => q = g ∨ u5.ownBlock = some q) W6 W9 := ((Only.refl (fun q => q = g ∨ u5.ownBlock = some q) W6).trans HT7.out.only (fun _ _ h => .inl h)).trans h9 (fun _ _ h => .inr h)
      have HN2 := Lib.hid (show RFi w W9 g A c F k (p + ((enc n).length + (fsB l parts (j + 1)).length)) l parts (j + 1) (.slice a5 (j + 1) c5) u9 (fun i => if i = j then [.int .i64 kd, .int .i64 nd, .string sd, .slice ad lad cad, .slice bd lbd cbd, .slice ed led ced] else css i) from by
        refine ⟨HB6.out.only h69 (fun e => by rcases e with e | e; omega; have := hu5lo _ e; omega), ?_, ?_, ?_, ?_⟩
        · rw [HSM.out]
          refine own_only HR6.out h69 fun q hq e => ?_
          rcases e with e | e
          · have := (HR6.out.lt q hq).1; omega
          · rcases own_ne HR6.out HU6.out (by decide) with h | h
            · rw [h] at hq; cases hq
            · exact h (hq.trans e.symm)
        · rw [flat_more]
          exact HO9.out
        · intro i hi
          by_cases e : i = j
          · subst e
            rw [if_pos rfl]
            refine ⟨X, HX.out.kept h9.size fun b hX hb => ⟨hX, h9.block b hb fun h => ?_⟩, fun b hX => ?_⟩
            · have := hu5lt b h; have := HXB.out b hX; omega
            · have h1 := HXB.out b hX
              refine ⟨by omega, by omega, fun h => ?_, fun h => ?_⟩
              · have := hv5lt b h; omega
              · rcases HA9.out with h2 | h2
                · rw [h2] at h; have := hu5lt b h; omega
                · rw [h2] at h; simp at h; omega
          · rw [if_neg e]
            have p6 : PIn (w.heap.size + 1) W6 (.slice a5 (j + 1) c5) u5 (parts i) (css i) := (HINV.out.pin i (by omega)).only HO6.out (fun b hb => by rcases hb with hb | hb | hb; (left; omega); (left; omega); exact .inr (.inl hb)) HA5.out (.inl rfl)
            refine p6.only h69 (fun b hb => by rcases hb with hb | hb; (left; omega); exact .inr (.inr hb)) (.inl rfl) ?_
            rcases HA9.out with h2 | h2
            · exact .inl h2
            · exact .inr ⟨_, h2, by omega⟩
        · have e : p + ((enc n).length + (fsB l parts j).length) + ((enc x.size).length + x.size) + (parts j).bytes.length = p + ((enc n).length + (fsB l parts (j + 1)).length) := by rw [HWM.out, List.length_append, List.length_append, hwl]; omega
          have h1 := readto_new (readto_trans HT6.out HT7.out) (.cells #[.int .i64 kd, .int .i64 nd, .string sd, .slice ad lad cad, .slice bd lbd cbd, .slice ed led ced] 28)
          rw [e] at h1
          exact readto_grown h1 hgl HF.out HG9.out fun q hq => by have := hu5lo q hq; omega)
      go_wp2_with fail
      go_roundw
      case rel => exact ⟨j + 1, _, _, by omega, by go_num, HN2.out⟩
      case measure => simp [intOf] <;> omega
    · obtain rfl : j = n := by omega
      have hb2 : Row (wr.setCell ⟨w.heap.size, 0, none⟩ (.slice a j cv)) w.heap.size 24 [.slice a j cv] := HINV.out.box.set 0 _
      have hbc := HINV.out.box.cell (k := 0) rfl
      have hbf := HINV.out.box.free 0
      have hbc2 := hb2.cell (k := 0) rfl
      have hres : Tryz.f139.results = #[.cell 4 24, .tmp 5] := by kernel_rfl
      have hO : Only (fun q => q = w.heap.size) wr (wr.setCell ⟨w.heap.size, 0, none⟩ (.slice a j cv)) := Only.setCell (S := fun q => q = w.heap.size) (Only.refl _ _) (.inl rfl) _
      have HFIN := Lib.hid (show RFi w (wr.setCell ⟨w.heap.size, 0, none⟩ (.slice a j cv)) g A c F k (p + ((enc j).length + (fsB l parts j).length)) l parts j (.slice a j cv) u5 css from
        ⟨hb2, own_set_ HINV.out.row (by show w.heap.size < _; omega) _, own_set_ HINV.out.prow (by show w.heap.size < _; omega) _, fun i hi => (HINV.out.pin i hi).only hO (fun b hb => .inl (by have h2 : b = w.heap.size := hb; omega)) (.inl rfl) (.inl rfl),
          ⟨HINV.out.rd.rr.only hO (by show ¬ g = w.heap.size; omega) (fun q hq e => by have h1 := HF.out q hq; have h2 : q = w.heap.size := e; omega), HINV.out.rd.only.trans hO fun q hq e => by have h2 : q = w.heap.size := e; omega⟩⟩)
      go_wp2_with fail
      (try simp only [Exit.inBlock, Exit.then])
      refine bodyPost_ret (v := .tuple #[.slice a j cv, u5]) ?_ rfl ⟨_, _, _, rfl, HFIN.out⟩
      simp only [results, hres]
      go_simp
end

end Go.Proofs.YtmiadkhfjkaidaaGreatDoor
