/- Steps in memory, as plain data: which are great; paths held against each other, by the document and by the program. Which paths are right: the program's, the document's; for any path. Texts and bytes turned into each other, and the writer's Text; for any bytes. What a writer leaves behind a byte, and behind bytes after their number; for rows of up to 2^47 bytes. The writer's Text; for any text. The document's own answers on bytes: what each of its calls makes, in new memory; for any input. A path's bytes: as the program writes them, as the document says them; for any right path. Lists of names and of numbers, as the program asks of them: follows, Right; Index, Contains, fresh, elements. A schema's words: has, fresh, choice. Whether a value is right: the program. Whether a value is right: the program. What writing a right schema leaves; for any right schema. -/
import Derived.Test.YtkjhmplnamaoaaaGreatDoorNm
import Derived.Test.YtkjhmplnamaoaaaGreatDoorRows
import Derived.Deep.QuietTactic
import Derived.BigQuiet
import Derived.Laws.StructEq
import Derived.Deep.SlicePairs
import Derived.ChangeArms
import Derived.OpenShut
import Derived.SizedLaws
import Derived.Test.YtkjhmplnamaoaaaGreatDoorMg1
import Derived.Test.YtkjhmplnamaoaaaGreatDoorMg3
import Derived.Laws.Strings
import Derived.Test.YtkjhmplnamaoaaaGreatDoorMg2
namespace Go.Proofs.YtkjhmplnamaoaaaGreatDoor
section
set_option maxRecDepth 100000
set_option linter.unusedSimpArgs false
set_option linter.unusedVariables false
open Go.RowKit Go.ChangeShapes Go.WideShapes

/-- A step, as plain data. -/
structure Stp where
  s : ByteArray
  id : Int
def stp (l : List Stp) (i : Nat) : Stp := l.getD i ⟨ByteArray.empty, 0⟩
structure StOk (x : Stp) : Prop where
  sz : x.s.size ≤ maxLen
  lo : 0 ≤ x.id
  hi : x.id < 18446744073709551616
def Sts (w : World) (a : Option Addr) (n : Nat) (l : List Stp) : Prop :=
  l.length = n ∧ (0 < n → ∃ ad, a = some ad ∧ ad.block < w.heap.size ∧ ∀ i x, l[i]? = some x → w.cell? (ad.add (i * 2)) = some (.string x.s) ∧ w.cell? ((ad.add (i * 2)).add 1) = some (.int .u64 x.id))
theorem Sts.keep {w w' : World} {a : Option Addr} {n : Nat} {l : List Stp} (h : Sts w a n l) (hb : ∀ ad, a = some ad → ad.block < w.heap.size → w'.heap[ad.block]? = w.heap[ad.block]?) (hs : w.heap.size ≤ w'.heap.size) : Sts w' a n l :=
  ⟨h.1, fun hn => by
    obtain ⟨ad, e, hl, hc⟩ := h.2 hn
    have g : ∀ j, w'.cell? (ad.add j) = w.cell? (ad.add j) := fun j => World.cell?_of_block (by rw [add_block]; exact hb ad e hl)
    refine ⟨ad, e, Nat.lt_of_lt_of_le hl hs, fun i x hx => ?_⟩
    obtain ⟨h1, h2⟩ := hc i x hx
    rw [add_add] at h2 ⊢
    exact ⟨(g _).trans h1, (g _).trans h2⟩⟩
theorem Sts.below {w w' : World} {a : Option Addr} {n : Nat} {l : List Stp} (h : Sts w a n l) (hb : Below w.heap.size w w') : Sts w' a n l :=
  h.keep (fun ad _ hl => hb.block _ hl) hb.size
theorem Sts.drewN {w : World} {a : Option Addr} {n : Nat} {l : List Stp} (h : Sts w a n l) (q : Nat) : Sts (w.drewN q) a n l := h.keep (fun _ _ _ => rfl) (Nat.le_refl _)
theorem stp_get {l : List Stp} {i : Nat} (h : i < l.length) : l[i]? = some (stp l i) := by
  unfold stp
  rw [List.getD, List.getElem?_eq_getElem h]
  rfl
theorem Sts.at_ {w : World} {a : Option Addr} {n : Nat} {l : List Stp} (h : Sts w a n l) {i : Nat} (hi : i < n) :
    ∃ ad, a = some ad ∧ w.cell? (ad.add (i * 2)) = some (.string (stp l i).s) ∧ w.cell? ⟨(ad.add (i * 2)).block, (ad.add (i * 2)).off + 1, none⟩ = some (.int .u64 (stp l i).id) := by
  obtain ⟨ad, e, _, hc⟩ := h.2 (by omega)
  obtain ⟨h1, h2⟩ := hc i _ (stp_get (by rw [h.1]; exact hi))
  exact ⟨ad, e, h1, h2⟩
theorem Sts.take {w : World} {a : Option Addr} {n : Nat} {l : List Stp} (h : Sts w a n l) {i : Nat} (hi : i ≤ n) : Sts w a i (l.take i) := by
  have hl := h.1
  refine ⟨by simp; omega, fun hn => ?_⟩
  obtain ⟨ad, e, h1, hc⟩ := h.2 (by omega)
  refine ⟨ad, e, h1, fun j u hu => hc j u ?_⟩
  rw [List.getElem?_take] at hu
  split at hu
  · exact hu
  · cases hu
theorem ok_get {l : List Stp} (h : ∀ x ∈ l, StOk x) {i : Nat} (hi : i < l.length) : StOk (stp l i) := h _ (List.mem_of_getElem? (stp_get hi))

/-- Whether a path is greater than is asked of. -/
def greatP (l : List Stp) : Bool := decide (40 < l.length) || (List.range l.length).any fun i => decide (100 < (stp l i).s.size)
theorem great_yes {l : List Stp} {j : Nat} (hj : j < l.length) (h : 100 < (stp l j).s.size) : greatP l = true := by
  unfold greatP
  rw [Bool.or_eq_true, List.any_eq_true]
  exact .inr ⟨j, List.mem_range.2 hj, decide_eq_true h⟩
theorem great_no {l : List Stp} (h1 : ¬ 40 < l.length) (h : ∀ i, i < l.length → ¬ 100 < (stp l i).s.size) : greatP l = false := by
  unfold greatP
  rw [decide_eq_false h1, Bool.false_or, ← Bool.not_eq_true, List.any_eq_true]
  rintro ⟨i, hi, hd⟩
  exact h i (List.mem_range.1 hi) (of_decide_eq_true hd)
theorem great_of {l : List Stp} (h : greatP l = false) : l.length ≤ 40 ∧ ∀ i, i < l.length → (stp l i).s.size ≤ 100 := by
  unfold greatP at h
  rw [Bool.or_eq_false_iff] at h
  refine ⟨by have := of_decide_eq_false h.1; omega, fun i hi => ?_⟩
  have h2 := h.2
  rw [← Bool.not_eq_true, List.any_eq_true] at h2
  exact Nat.le_of_not_lt fun hc => h2 ⟨i, List.mem_range.2 hi, decide_eq_true hc⟩

/-- Whether two steps are the same, and whether two paths are. -/
def eqSt (x y : Stp) : Bool := eqS x.s y.s && x.id == y.id
def eqP (l m : List Stp) : Bool := decide (l.length = m.length) && (List.range l.length).all fun i => eqSt (stp l i) (stp m i)
theorem eqP_no {l m : List Stp} {j : Nat} (hj : j < l.length) (h : eqSt (stp l j) (stp m j) = false) : eqP l m = false := by
  unfold eqP
  rw [← Bool.not_eq_true, Bool.and_eq_true, List.all_eq_true]
  rintro ⟨_, h2⟩
  rw [h2 j (List.mem_range.2 hj)] at h
  cases h
theorem eqP_yes {l m : List Stp} (hl : l.length = m.length) (h : ∀ j, j < l.length → eqSt (stp l j) (stp m j) = true) : eqP l m = true := by
  unfold eqP
  rw [decide_eq_true hl, Bool.true_and, List.all_eq_true]
  exact fun i hi => h i (List.mem_range.1 hi)
theorem eqP_len {l m : List Stp} (hl : l.length ≠ m.length) : eqP l m = false := by
  unfold eqP
  rw [decide_eq_false hl]
  rfl


/-- A whole step loaded; an element's place; two steps held against each other. -/
theorem run_loadVar_st {P : Program} (w : World) (a : Addr) (ty : TypeId) (cs : List Value) (hc : ∀ j v, cs[j]? = some v → w.cell? (a.add j) = some v) {fs : Array Field}
    (hu : P.underlying ty = some (.struct fs)) (hi : (P.info? ty).map (·.size) = some cs.length) : (loadVar ty a).run P w = .ok (.agg cs.toArray) w := by
  have hl : (loadCells a cs.length).run P w = .ok cs.toArray w := run_loadCells_list (P := P) w a cs hc
  cases hq : P.info? ty with
  | none => simp [hq] at hi
  | some i =>
    have hs : i.size = cs.length := by simpa [hq] using hi
    have hagg : (isAgg ty).run P w = .ok true w := by
      unfold isAgg
      rw [Sem.run_bind, run_underlying hu w]
      simp
    simp [loadVar, Sem.run_bind, hagg, sizeOf, typeInfo, hq, hs, hl]
/-- A load, by its run. -/
theorem wpList_loadr {P : Program} {ops : Array Oper} {rest : List Oper} {o : Oper} {a : Act} {w : World} {Q : Exit → Act → World → Prop} (hgd : o.guard = none) (ty : TypeId) (x : Operand) (ho : o.op = .load ty x) (u r : Value) (hx : a.eval x = u)
    (hi : (Instr.loadAt ty u).run P w = .ok r w) (h : wpList P ops Q rest (a.put o.dst r) w) : wpList P ops Q (o :: rest) a w := by
  refine wpList_plain hgd fun _ hK => ?_
  unfold Oper.wp execOp
  simp only [ho, Sem.run_bind, Sem.run_pure, Result.andThen_ok, hx, hi]
  exact hK _ _ h
theorem below_new (w : World) (o : Obj) : Below w.heap.size w (w.alloc o) := (Below.refl _ _).alloc (Nat.le_refl _) _
theorem below_then {w w' : World} {o : Obj} (h : Below (w.alloc o).heap.size (w.alloc o) w') : Below w.heap.size w w' := (below_new w o).trans (h.mono (below_new w o).size)
end

section
set_option maxRecDepth 100000
set_option linter.unusedSimpArgs false
set_option linter.unusedVariables false
open Go.RowKit

def stB (x : Stp) : Bool := (nameB x.s && x.id == 0) || (decide (x.s.size = 0) && x.id != 0)
def rightP (l : List Stp) : Bool := decide (l.length ≤ 8) && (List.range l.length).all fun i => stB (stp l i)
theorem empty_of {s : ByteArray} (h : s.size = 0) : s = ByteArray.empty := by
  obtain ⟨⟨d⟩⟩ := s
  cases d with
  | nil => rfl
  | cons x d => simp [ByteArray.size] at h
theorem name_size {s : ByteArray} (h : nameB s = true) : s.size ≠ 0 ∧ s.size ≤ 12 := by
  rw [name_lets, Bool.and_eq_true, Bool.and_eq_true] at h
  have h1 := of_decide_eq_true h.1.1
  have h2 := of_decide_eq_true h.1.2
  omega
theorem isEmpty_ne {s : ByteArray} (h : s.size ≠ 0) : s.toList.isEmpty = false := by
  have h2 : s.toList.length = s.size := by rw [ByteArray.toList_eq]; simp
  cases hs : s.toList with
  | nil => rw [hs] at h2; exact absurd h2.symm h
  | cons x l => rfl
theorem toList_ne {s : ByteArray} (h : s.size ≠ 0) : ¬ s.toList = [] := fun e => h (by
  have h2 : s.toList.length = s.size := by rw [ByteArray.toList_eq]; simp
  rw [e] at h2
  simpa using h2.symm)

/-- What IndexFunc finds: the first one, or none. -/
def IsFst (p : Nat → Bool) (n : Nat) (r : Int) : Prop := (r = -1 ∧ ∀ i, i < n → p i = false) ∨ ∃ j : Nat, j < n ∧ r = j ∧ p j = true
theorem IsFst.any {p : Nat → Bool} {n : Nat} {r : Int} (h : IsFst p n r) : (decide (0 ≤ r)) = (List.range n).any p := by
  rcases h with ⟨rfl, h⟩ | ⟨j, hj, rfl, hp⟩
  · rw [show decide ((0 : Int) ≤ -1) = false from rfl]
    symm
    rw [← Bool.not_eq_true, List.any_eq_true]
    rintro ⟨i, hi, hp⟩
    rw [h i (List.mem_range.1 hi)] at hp
    cases hp
  · rw [decide_eq_true (by omega)]
    symm
    rw [List.any_eq_true]
    exact ⟨j, List.mem_range.2 hj, hp⟩

theorem s_not_any (p : Nat → Bool) (n : Nat) : (!(List.range n).any fun i => !p i) = (List.range n).all p := by
  rw [Bool.eq_iff_iff]
  simp
theorem rightP_no {l : List Stp} {j : Nat} (hj : j < l.length) (h : stB (stp l j) = false) : rightP l = false := by
  unfold rightP
  rw [← Bool.not_eq_true, Bool.and_eq_true, List.all_eq_true]
  rintro ⟨_, h2⟩
  rw [h2 j (List.mem_range.2 hj)] at h
  cases h
theorem rightP_yes {l : List Stp} (h : ∀ j, j < l.length → stB (stp l j) = true) : rightP l = decide (l.length ≤ 8) := by
  unfold rightP
  rw [show ((List.range l.length).all fun i => stB (stp l i)) = true from List.all_eq_true.2 fun i hi => h i (List.mem_range.1 hi), Bool.and_true]
end

section
set_option maxRecDepth 100000
open Go.RowKit

/-- string(b). -/
theorem to_text (A : Option Addr) (n c : Nat) (k : List UInt8) (F : Nat → Prop) (w : World) (hr : Rd w F A n (Bs k)) :
    (convert 29 9 (.slice A n c)).run Tryz.prog w = .ok (.string ⟨k.toArray⟩) w := by
  obtain rfl : n = k.length := hr.len.symm
  by_cases hk : 0 < k.length
  · obtain ⟨ad, rfl, _, _, hc⟩ := hr.2 hk
    refine run_convert_bytes_back w _ _ _ ad c k Tryz.underlying29 Tryz.underlying5 Tryz.underlying9 fun j hj => ?_
    exact hc j _ (by rw [Bs_get, List.getElem?_eq_getElem hj]; rfl)
  · obtain rfl : k = [] := List.eq_nil_of_length_eq_zero (by omega)
    cases A with
    | none => exact run_convert_bytes_nil w _ _ Tryz.underlying29 Tryz.underlying5 _ _ _ Tryz.underlying9
    | some ad => exact run_convert_bytes_back w _ _ _ ad c [] Tryz.underlying29 Tryz.underlying5 Tryz.underlying9 (fun j hj => absurd hj (by simp))

/-- What the bytes of a text are, as a new row (it bears a mark behind its end). -/
theorem of_text (s : ByteArray) (w : World) : ∃ c w', (convert 9 29 (.string s)).run Tryz.prog w = .ok (.slice (some ⟨w.heap.size, 0, none⟩) s.size c) w' ∧
    Rd w' (fun j => j = w.heap.size) (some ⟨w.heap.size, 0, none⟩) s.size (Bs s.data.toList) ∧ Below w.heap.size w w' ∧ s.size ≤ c := by
  refine ⟨_, _, run_bytes_of_string w _ _ _ s Tryz.underlying9 Tryz.underlying29 Tryz.underlying5, ⟨by simp [Bs], fun hn => ⟨_, rfl, rfl, ?_, fun j u hu => ?_⟩⟩, ?_, grownCap_ge _ _ _ _⟩
  · simp
  · have hj : j < s.data.size := by
      have := (List.getElem?_eq_some_iff.1 hu).1
      simpa [Bs] using this
    have e : (⟨w.heap.size, 0, none⟩ : Addr).add j = ⟨w.heap.size, j, none⟩ := by unfold Addr.add; split <;> simp_all
    have h1 : w.drew.heap.size = w.heap.size := rfl
    rw [e, ← h1, World.cell?_alloc_mark, bytesRow_at s _ j hj, ← hu, Bs_get]
    rw [Array.getElem?_toList, Array.getElem?_eq_getElem hj]
    rfl
  · exact ((Below.refl _ _).drew).alloc (Nat.le_refl _) _
end

section
open Go.RowKit

/-- A bool's byte. -/
def bb (b : Bool) : UInt8 := if b then 1 else 0

set_option maxHeartbeats 400000 in
theorem bool_any (a : Addr) (v : Value) (l : List UInt8) (b : Bool) (w : World) (hw : Wr w a v l) (hlen : l.length + 10 ≤ 140737488355328) :
    Calls Tryz.prog 30 #[.pointer (some a), .bool b] w fun e w' => e = .returned (.tuple #[]) ∧ ∃ v', Wrote w w' a v v' (l ++ [bb b]) := by
  cases b
  all_goals
    go_enter Tryz.func30, Tryz.ntmps30
    go_wp2_with fail
  · refine (raw_any a v l _ 1 1 [0] _ _ (hw.alloc _) (Rd.lit _ _ _ _ rfl 1 rfl) (by omega)).mono ?_
    rintro e w2 ⟨rfl, v2, hw2⟩
    go_wp2_with fail
    go_end0
    exact ⟨rfl, v2, hw2.after ((Below.refl _ _).alloc (Nat.le_refl _) _)⟩
  · refine (raw_any a v l _ 1 1 [1] _ _ (hw.alloc _) (Rd.lit _ _ _ _ rfl 1 rfl) (by omega)).mono ?_
    rintro e w2 ⟨rfl, v2, hw2⟩
    go_wp2_with fail
    go_end0
    exact ⟨rfl, v2, hw2.after ((Below.refl _ _).alloc (Nat.le_refl _) _)⟩

set_option maxHeartbeats 400000 in
theorem byte_any (a : Addr) (v : Value) (l : List UInt8) (c : UInt8) (w : World) (hw : Wr w a v l) (hlen : l.length + 10 ≤ 140737488355328) :
    Calls Tryz.prog 29 #[.pointer (some a), .int .u8 c.toNat] w fun e w' => e = .returned (.tuple #[]) ∧ ∃ v', Wrote w w' a v v' (l ++ [c]) := by
  go_enter Tryz.func29, Tryz.ntmps29
  go_wp2_with fail
  refine (raw_any a v l _ 1 1 [c] _ _ (hw.alloc _) (Rd.lit _ _ _ _ rfl 1 rfl) (by omega)).mono ?_
  rintro e w2 ⟨rfl, v2, hw2⟩
  go_wp2_with fail
  go_end0
  exact ⟨rfl, v2, hw2.after ((Below.refl _ _).alloc (Nat.le_refl _) _)⟩

set_option maxHeartbeats 400000 in
theorem putbytes_any (a : Addr) (v : Value) (l : List UInt8) (A : Option Addr) (n c : Nat) (k : List UInt8) (F : Nat → Prop) (w : World) (hw : Wr w a v l) (hr : Rd w F A n (Bs k))
    (hF : ∀ j, F j → j ≠ a.block ∧ v.ownBlock ≠ some j) (hlen : l.length + n + 10 ≤ 140737488355328) :
    Calls Tryz.prog 62 #[.pointer (some a), .slice A n c] w fun e w' => e = .returned (.tuple #[]) ∧ ∃ v', Wrote w w' a v v' (l ++ (enc k.length ++ k)) := by
  have HR := Lib.hid hr
  have hn : n < 18446744073709551616 := by omega
  have HK := Lib.hid hr.len
  have hel := enc_length_le hn
  clear hr
  go_enter Tryz.func62, Tryz.ntmps62
  go_wp2_with fail
  refine (number_any a v l n _ hw hn (by omega)).mono ?_
  rintro e w2 ⟨rfl, v2, hw2⟩
  go_wp2_with fail
  refine (raw_any a v2 (l ++ enc n) A n c k F _ hw2.wr (HR.out.only hw2.only fun j hj hs => ?_) (by simp; omega)).mono ?_
  · rcases hs with hs | hs
    · exact (hF j hj).1 hs
    · exact (hF j hj).2 hs
  rintro e w3 ⟨rfl, v3, hw3⟩
  go_wp2_with fail
  go_end0
  refine ⟨rfl, v3, ?_⟩
  rw [HK.out, ← List.append_assoc]
  exact hw2.trans hw3
end

section
open Go.RowKit

set_option maxHeartbeats 400000 in
theorem puttext_any (a : Addr) (v : Value) (l : List UInt8) (s : ByteArray) (w : World) (hw : Wr w a v l) (hlen : l.length + s.size + 10 ≤ 140737488355328) :
    Calls Tryz.prog 32 #[.pointer (some a), .string s] w fun e w' => e = .returned (.tuple #[]) ∧ ∃ v', Wrote w w' a v v' (l ++ (enc s.size ++ s.data.toList)) := by
  obtain ⟨c, w1, hrun, hrd, hbel, _⟩ := of_text s w
  have HW := Lib.hid hw
  clear hw
  have HR := Lib.hid hrd
  have HB := Lib.hid hbel
  clear hrd hbel
  go_enter Tryz.func32, Tryz.ntmps32
  go_wp2_with fail
  have hsz : s.data.toList.length = s.size := by simp
  refine (putbytes_any a v l _ _ c s.data.toList _ _ (HW.out.below HB.out) HR.out (fun j hj => ?_) hlen).mono ?_
  · subst hj
    have h1 := HW.out.lt
    exact ⟨by omega, fun e => by have := HW.out.rowlt _ e; omega⟩
  rintro e w2 ⟨rfl, v2, hw2⟩
  go_wp2_with fail
  go_end0
  refine ⟨rfl, v2, ?_⟩
  rw [← hsz]
  exact hw2.after HB.out
end

section
open Go.RowKit

theorem ref_low {n : Nat} (h : n < 128) : [Value.int .u8 (n : Int)] = Bs [UInt8.ofNat n] := low_last h
theorem ref_big (n : Nat) : [Value.int .u8 ((n : Int) % 128 + 128)] = Bs [UInt8.ofNat (n % 128 + 128)] := by
  simp only [Bs, List.map_cons, List.map_nil]
  rw [toNat_low (by omega)]
  congr 2

/-- A new row of its own, from literal cells. -/
theorem own_lit (w : World) (l : List UInt8) (cs : Array Value) (h : cs.toList = Bs l) (n : Nat) (hn : l.length = n) (hm : n ≤ maxLen) :
    (w.alloc (.cells cs 5)).ownsRow w.heap.size 5 1 (.slice (some ⟨w.heap.size, 0, none⟩) n n) n (Bs l) := by
  have hs : cs.size = n := by rw [← Array.length_toList, h, Bs_length, hn]
  refine ⟨by rw [Bs_length]; omega, .inr ⟨w.heap.size, n, cs, rfl, Nat.le_refl _, heap_alloc_new w _, Nat.le_refl _, hm, by omega, ?_⟩⟩
  rw [h, List.take_of_length_le (by rw [Bs_length]; omega)]

set_option maxHeartbeats 400000 in
theorem refnum_any (k : Nat) : ∀ (n : Nat) (w : World), n ≤ k → n < 18446744073709551616 →
    Calls Tryz.prog 23 #[.int .u64 n] w fun e w' => ∃ v, e = .returned v ∧ w'.ownsRow w.heap.size 5 1 v (enc n).length (Bs (enc n)) ∧ Below w.heap.size w w' := by
  induction k using Nat.strongRecOn with
  | ind k ih =>
    intro n w hk hn
    by_cases h : n < 128
    · have hc : (n : Int) < 128 := by omega
      have HE := Lib.hid (enc_small h)
      go_enter Tryz.func23, Tryz.ntmps23
      go_wp2_with fail
      go_ret
      refine ⟨_, rfl, ?_, (Below.refl _ _).alloc (Nat.le_refl _) _⟩
      rw [HE.out]
      exact own_lit w [UInt8.ofNat n] _ (ref_low h) 1 rfl (by unfold maxLen; omega)
    · have hc : ¬ (n : Int) < 128 := by omega
      obtain ⟨i0, hi, hz0, hz1, hz2⟩ := info_parts u8_info
      have HE := Lib.hid (enc_big h)
      have hl := enc_length_le hn
      rw [enc_big h, List.length_cons] at hl
      have IH := Lib.hid ih
      clear ih
      go_enter Tryz.func23, Tryz.ntmps23
      go_wp2_with fail
      rw [show ((n : Int) / 128) = ((n / 128 : Nat) : Int) from by omega]
      refine (IH.out (n / 128) (by omega) (n / 128) _ (Nat.le_refl _) (by omega)).mono ?_
      rintro e w1 ⟨v, rfl, hown, hbel⟩
      obtain ⟨A, c, rfl⟩ := own_slice hown
      have HO := Lib.hid hown
      have HB := Lib.hid hbel
      clear hown hbel
      go_wp2_with (at_builtin; refine wpList_append_rd _ rfl (.tmp 12) (.tmp 15) 29 rfl w.heap.size 5 i0 (.int .u8 0) 1 Tryz.underlying29 hi hz0 hz1 hz2 rfl (.slice (some ⟨w.heap.size, 0, none⟩) 1 1) 1 (Bs [UInt8.ofNat (n % 128 + 128)]) rfl (own_below (own_lit w [UInt8.ofNat (n % 128 + 128)] _ (ref_big n) 1 rfl (by unfold maxLen; omega)) HB.out) _ A (enc (n / 128)).length c (Bs (enc (n / 128))) rfl (Rd.of_own HO.out) (Bs_one _) ?c1 ?c2 ?c3 ?_)
      case c1 => unfold maxLen; omega
      case c2 => omega
      case c3 => have := HB.out.size; simp at this; omega
      intro v' w' hown hg hat
      go_wp2
      go_ret
      refine ⟨v', rfl, ?_, ?_⟩
      · rw [HE.out]
        show w'.ownsRow _ _ _ _ _ (Bs ([UInt8.ofNat (n % 128 + 128)] ++ enc (n / 128)))
        rw [List.length_cons, Bs_append, Nat.add_comm, show UInt8.ofNat (n % 128 + 128) = UInt8.ofNat (n % 128) + 128 from by simp]
        exact hown
      · have h1 : Below w.heap.size w w1 := ((Below.refl _ _).alloc (Nat.le_refl _) _).trans (HB.out.mono (by simp))
        exact h1.grown hg h1.size (fun j hj => by simp [Value.ownBlock] at hj; omega)

theorem zig_below {n : Int} (h : n < 0) : 2 * -(n + 1) + 1 = zig n := by
  unfold zig
  rw [if_pos h]
  omega
theorem zig_from {n : Int} (h : ¬ n < 0) : 2 * n = zig n := by
  unfold zig
  rw [if_neg h]
  omega

set_option maxHeartbeats 400000 in
theorem refint_any (n : Int) (w : World) (h1 : -9223372036854775808 ≤ n) (h2 : n ≤ 9223372036854775807) :
    Calls Tryz.prog 21 #[.int .i64 n] w fun e w' => ∃ v, e = .returned v ∧ w'.ownsRow w.heap.size 5 1 v (enc (zig n)).length (Bs (enc (zig n))) ∧ Below w.heap.size w w' := by
  have hz := zig_lt h1 h2
  by_cases h : n < 0
  · have HZ := Lib.hid (zig_below h)
    go_enter Tryz.func21, Tryz.ntmps21
    go_wp2_with fail
    rw [HZ.out]
    refine (refnum_any _ (zig n) _ (Nat.le_refl _) hz).mono ?_
    rintro e w' ⟨v, rfl, hown, hbel⟩
    go_wp2_with fail
    go_ret
    exact ⟨_, rfl, hown, hbel⟩
  · have HZ := Lib.hid (zig_from h)
    go_enter Tryz.func21, Tryz.ntmps21
    go_wp2_with fail
    rw [HZ.out]
    refine (refnum_any _ (zig n) _ (Nat.le_refl _) hz).mono ?_
    rintro e w' ⟨v, rfl, hown, hbel⟩
    go_wp2_with fail
    go_ret
    exact ⟨_, rfl, hown, hbel⟩

set_option maxHeartbeats 400000 in
theorem refbytes_any (A : Option Addr) (n c : Nat) (k : List UInt8) (F : Nat → Prop) (w : World) (hr : Rd w F A n (Bs k)) (hn : n ≤ 140737488355000) :
    Calls Tryz.prog 22 #[.slice A n c] w fun e w' => ∃ v, e = .returned v ∧ w'.ownsRow w.heap.size 5 1 v (enc k.length ++ k).length (Bs (enc k.length ++ k)) ∧ Below w.heap.size w w' := by
  obtain ⟨i0, hi, hz0, hz1, hz2⟩ := info_parts u8_info
  obtain rfl : n = k.length := hr.len.symm
  have hl := enc_length_le (n := k.length) (by omega)
  have HR := Lib.hid hr
  clear hr
  go_enter Tryz.func22, Tryz.ntmps22
  go_wp2_with fail
  refine (refnum_any _ k.length _ (Nat.le_refl _) (by omega)).mono ?_
  rintro e w1 ⟨v, rfl, hown, hbel⟩
  have HO := Lib.hid hown
  have HB := Lib.hid hbel
  clear hown hbel
  go_wp2_with (at_builtin; refine wpList_append_rd _ rfl (.tmp 6) (.tmp 7) 29 rfl w.heap.size 5 i0 (.int .u8 0) 1 Tryz.underlying29 hi hz0 hz1 hz2 rfl v (enc k.length).length (Bs (enc k.length)) rfl HO.out F A k.length c (Bs k) rfl (HR.out.belowAll HB.out) (Bs_one _) ?c1 ?c2 ?c3 ?_)
  case c1 => unfold maxLen; omega
  case c2 => omega
  case c3 => exact HB.out.size
  intro v' w' hown hg hat
  go_wp2
  go_ret
  refine ⟨v', rfl, by rw [Bs_append, List.length_append]; exact hown, HB.out.grown hg HB.out.size fun j hj => (HO.out.lt j hj).1⟩
end

section
set_option maxRecDepth 100000
set_option linter.unusedSimpArgs false
set_option linter.unusedVariables false
open Go.RowKit

def stBytes (x : Stp) : List UInt8 := (enc x.s.size ++ x.s.data.toList) ++ (if x.s.size = 0 then enc x.id.toNat else [])
/-- The bytes of how many steps there are, and of the first ones. -/
def pB (l : List Stp) (j : Nat) : List UInt8 := enc l.length ++ (l.take j).flatMap stBytes
def pBytes (l : List Stp) : List UInt8 := pB l l.length
theorem pB_zero (l : List Stp) : pB l 0 = enc l.length := by simp [pB]
theorem pB_more {l : List Stp} {j : Nat} (hj : j < l.length) : pB l (j + 1) = pB l j ++ stBytes (stp l j) := by
  unfold pB
  rw [List.take_add_one, stp_get hj, List.flatMap_append, List.append_assoc]
  simp
theorem stBytes_named {x : Stp} (h : x.s.size ≠ 0) : stBytes x = enc x.s.size ++ x.s.data.toList := by unfold stBytes; rw [if_neg h, List.append_nil]
theorem enc_empty : enc ByteArray.empty.size ++ ByteArray.empty.data.toList = [0] := by
  have h : enc ByteArray.empty.size = [0] := by rw [show ByteArray.empty.size = 0 from rfl, enc_small (by omega)]; rfl
  rw [h]; rfl
theorem stBytes_numbered (i : Int) : stBytes ⟨ByteArray.empty, i⟩ = [0] ++ enc i.toNat := by
  have h : enc ByteArray.empty.size = [0] := by rw [show ByteArray.empty.size = 0 from rfl, enc_small (by omega)]; rfl
  show (enc ByteArray.empty.size ++ ByteArray.empty.data.toList) ++ (if ByteArray.empty.size = 0 then enc i.toNat else []) = _
  rw [h, if_pos (show ByteArray.empty.size = 0 from rfl)]
  rfl
theorem stBytes_len {x : Stp} (h : x.s.size ≤ 12) (h1 : x.id < 18446744073709551616) : (stBytes x).length ≤ 32 := by
  have h2 := enc_length_le (n := x.s.size) (by omega)
  have h3 := enc_length_le (n := x.id.toNat) (by omega)
  have h4 : x.s.data.toList.length = x.s.size := by simp
  unfold stBytes
  split <;> simp only [List.length_append, List.length_nil] <;> omega
theorem right_of {l : List Stp} (h : rightP l = true) : l.length ≤ 8 ∧ ∀ j, j < l.length → stB (stp l j) = true := by
  unfold rightP at h
  rw [Bool.and_eq_true, List.all_eq_true] at h
  exact ⟨of_decide_eq_true h.1, fun j hj => h.2 j (List.mem_range.2 hj)⟩
theorem stB_size {x : Stp} (h : stB x = true) : x.s.size ≤ 12 := by
  unfold stB at h
  rw [Bool.or_eq_true, Bool.and_eq_true, Bool.and_eq_true] at h
  rcases h with h | h
  · exact (name_size h.1).2
  · have := of_decide_eq_true h.1
    omega
theorem pB_len {l : List Stp} (h : rightP l = true) (hok : ∀ x ∈ l, StOk x) : ∀ j, j ≤ l.length → (pB l j).length ≤ 10 + 32 * j
  | 0, _ => by
    rw [pB_zero]
    have := enc_length_le (n := l.length) (by have := (right_of h).1; omega)
    omega
  | j + 1, hj => by
    have ih := pB_len h hok j (by omega)
    have hs := stBytes_len (stB_size ((right_of h).2 j (by omega))) (ok_get hok (by omega)).hi
    rw [pB_more (by omega), List.length_append]
    omega

theorem below_wrote {W w w' : World} {a : Addr} {v v' : Value} {l : List UInt8} (h : Wrote w w' a v v' l) (hW : Below W.heap.size W w) (ha : W.heap.size ≤ a.block) (hv : ∀ j, v.ownBlock = some j → W.heap.size ≤ j) :
    Below W.heap.size W w' ∧ ∀ j, v'.ownBlock = some j → W.heap.size ≤ j :=
  ⟨hW.trans (h.only.below hW.size (fun k hk => hk.elim (fun e => e ▸ ha) (hv k))), fun j hj => (h.rows j hj).elim (hv j) (fun hk => Nat.le_trans hW.size hk)⟩
end

section
set_option maxRecDepth 100000
set_option linter.unusedSimpArgs false
set_option linter.unusedVariables false
open Go.RowKit

abbrev Strs (w : World) (a : Option Addr) (n : Nat) (l : List ByteArray) : Prop := Rd w (fun _ => True) a n (l.map Value.string)
abbrev Nums (w : World) (a : Option Addr) (n : Nat) (l : List Int) : Prop := Rd w (fun _ => True) a n (l.map (Value.int .u64))
theorem Strs.len {w : World} {a : Option Addr} {n : Nat} {l : List ByteArray} (h : Strs w a n l) : l.length = n := by have := h.1; simpa using this
theorem Nums.len {w : World} {a : Option Addr} {n : Nat} {l : List Int} (h : Nums w a n l) : l.length = n := by have := h.1; simpa using this
theorem Strs.at_ {w : World} {a : Option Addr} {n : Nat} {l : List ByteArray} (h : Strs w a n l) {i : Nat} (hi : i < n) : ∃ ad, a = some ad ∧ w.cell? (ad.add i) = some (.string (nth l i)) := by
  obtain ⟨ad, e, _, _, hc⟩ := h.2 (by omega)
  have hl := h.len
  exact ⟨ad, e, hc i _ (by rw [List.getElem?_map, List.getElem?_eq_getElem (by omega)]; unfold nth; rw [List.getD, List.getElem?_eq_getElem (by omega)]; rfl)⟩
theorem Nums.at_ {w : World} {a : Option Addr} {n : Nat} {l : List Int} (h : Nums w a n l) {i : Nat} (hi : i < n) : ∃ ad, a = some ad ∧ w.cell? (ad.add i) = some (.int .u64 (l.getD i 0)) := by
  obtain ⟨ad, e, _, _, hc⟩ := h.2 (by omega)
  have hl := h.len
  exact ⟨ad, e, hc i _ (by rw [List.getElem?_map, List.getElem?_eq_getElem (by omega), List.getD, List.getElem?_eq_getElem (by omega)]; rfl)⟩
theorem Strs.take {w : World} {a : Option Addr} {n : Nat} {l : List ByteArray} (h : Strs w a n l) {i : Nat} (hi : i ≤ n) : Strs w a i (l.take i) := by
  have hl := h.len
  refine ⟨by simp; omega, fun hn => ?_⟩
  obtain ⟨ad, e, h1, h2, hc⟩ := h.2 (by omega)
  refine ⟨ad, e, h1, h2, fun j u hu => hc j u ?_⟩
  rw [List.map_take, List.getElem?_take] at hu
  split at hu
  · exact hu
  · cases hu
theorem Nums.take {w : World} {a : Option Addr} {n : Nat} {l : List Int} (h : Nums w a n l) {i : Nat} (hi : i ≤ n) : Nums w a i (l.take i) := by
  have hl := h.len
  refine ⟨by simp; omega, fun hn => ?_⟩
  obtain ⟨ad, e, h1, h2, hc⟩ := h.2 (by omega)
  refine ⟨ad, e, h1, h2, fun j u hu => hc j u ?_⟩
  rw [List.map_take, List.getElem?_take] at hu
  split at hu
  · exact hu
  · cases hu
theorem nth_take {l : List ByteArray} {i j : Nat} (h : j < i) : nth (l.take i) j = nth l j := by
  unfold nth
  rw [List.getD, List.getD, List.getElem?_take, if_pos h]
theorem getD_take {l : List Int} {i j : Nat} (h : j < i) : (l.take i).getD j 0 = l.getD j 0 := by
  rw [List.getD, List.getD, List.getElem?_take, if_pos h]
theorem nth_sz {l : List ByteArray} (h : ∀ x ∈ l, x.size ≤ maxLen) (i : Nat) : (nth l i).size ≤ maxLen := by
  unfold nth
  rw [List.getD]
  cases hi : l[i]? with
  | none => exact Nat.zero_le _
  | some x => exact h x (List.mem_of_getElem? hi)

/-- Whether a name may stand behind these. -/
def folB (l : List ByteArray) (s : ByteArray) : Bool := nameB s && (decide (l.length = 0) || ltS (nth l (l.length - 1)) s)
theorem follows_any (a : Option Addr) (n cap : Nat) (l : List ByteArray) (s : ByteArray) (hs : s.size ≤ maxLen) (hn : n ≤ 9223372036854775807) (w : World) (h : Strs w a n l) :
    Calls Tryz.prog 100 #[.slice a n cap, .string s] w fun e w' => e = .returned (.bool (folB l s)) ∧ w' = w := by
  have hl := h.len
  obtain ⟨b, hb⟩ : ∃ b, nameB s = b := ⟨_, rfl⟩
  have hna := name_any s hs w
  rw [hb] at hna
  have HNA := Lib.hid hna
  cases b
  · have HF := Lib.hid (show folB l s = false by unfold folB; rw [hb]; rfl)
    clear hna hb h hl
    go_enter Tryz.func100, Tryz.ntmps100
    go_wp2_with fail
    refine HNA.out.mono ?_
    rintro e w' ⟨rfl, rfl⟩
    go_wp2_with fail
    go_ret
    exact ⟨by rw [HF.out]; rfl, rfl⟩
  · cases n with
    | zero =>
      have HF := Lib.hid (show folB l s = true by unfold folB; rw [hb, hl]; rfl)
      clear hna hb h hl
      go_enter Tryz.func100, Tryz.ntmps100
      go_wp2_with fail
      refine HNA.out.mono ?_
      rintro e w' ⟨rfl, rfl⟩
      go_wp2_with fail
      go_ret
      exact ⟨by rw [HF.out]; rfl, rfl⟩
    | succ m =>
      have HF := Lib.hid (show folB l s = ltS (nth l m) s by unfold folB; rw [hb, hl, decide_eq_false (by omega)]; rfl)
      obtain ⟨ad, rfl, hc⟩ := h.at_ (i := m) (by omega)
      have g0 : ((((m + 1 : Nat) : Int)) == 0) = false := beq_eq_false_iff_ne.2 (by omega)
      have g1 : (0 : Int) ≤ (m : Int) := by omega
      have g2 : (m : Int) < ((m + 1 : Nat) : Int) := by omega
      have g3 : (m : Int) < (m : Int) + 1 := by omega
      have g4 : ¬ (m : Int) + 1 = 0 := by omega
      have g5 : ((m : Int) + 1 == 0) = false := beq_eq_false_iff_ne.2 g4
      have g6 : (m : Int) ≤ 9223372036854775806 := by omega
      clear hna hb h hl
      generalize nth l m = x at *
      go_enter Tryz.func100, Tryz.ntmps100
      go_wp2_with fail
      refine HNA.out.mono ?_
      rintro e w' ⟨rfl, rfl⟩
      go_wp2_with fail
      go_ret
      exact ⟨by rw [HF.out]; rfl, rfl⟩

/-- The first ones rise. -/
def riseN (l : List ByteArray) (n : Nat) : Bool := (List.range n).all fun i => nameB (nth l i) && (decide (i = 0) || ltS (nth l (i - 1)) (nth l i))
theorem riseN_more (l : List ByteArray) {n : Nat} (hn : n ≤ l.length) : riseN l (n + 1) = (riseN l n && folB (l.take n) (nth l n)) := by
  unfold riseN folB
  rw [List.range_succ, List.all_append]
  simp only [List.all_cons, List.all_nil, Bool.and_true]
  congr 2
  rw [List.length_take, Nat.min_eq_left hn]
  cases n with
  | zero => rfl
  | succ m => rw [nth_take (by omega)]
theorem riseN_no {l : List ByteArray} {n m : Nat} (h : riseN l n = false) (hm : n ≤ m) : riseN l m = false := by
  unfold riseN at *
  rw [← Bool.not_eq_true, List.all_eq_true] at *
  exact fun h' => h fun i hi => h' i (List.mem_range.2 (by have := List.mem_range.1 hi; omega))
theorem rise_n (l : List ByteArray) : riseB l = riseN l l.length := rfl
def fieldsB (l : List ByteArray) (parts : Nat) : Bool := decide (l.length ≤ 8) && decide (parts = l.length) && riseB l

set_option maxHeartbeats 800000 in
theorem fright_any (a : Option Addr) (n cap : Nat) (l : List ByteArray) (hss : ∀ x ∈ l, x.size ≤ maxLen) (hn : n ≤ cap ∧ cap ≤ maxLen) (p : Nat) (w : World) (h : Strs w a n l) :
    Calls Tryz.prog 85 #[.slice a n cap, .int .i64 (p : Int)] w fun e w' => e = .returned (.bool (fieldsB l p)) ∧ w' = w := by
  have hl := h.len
  by_cases h8 : n ≤ 8
  · have g8 : ¬ (n : Int) > 8 := by omega
    have g8b : (n : Int) ≤ 8 := by omega
    by_cases hp : p = n
    · subst hp
      have hf : fieldsB l p = riseN l p := by unfold fieldsB; rw [hl, decide_eq_true h8, decide_eq_true rfl, rise_n, hl]; rfl
      have HF := Lib.hid hf
      have H := Lib.hid h
      have HL := Lib.hid hl
      have HSS := Lib.hid hss
      have hn1 : p ≤ cap := hn.1
      have hn2 : (cap : Int) ≤ 9223372036854775807 := by have := hn.2; unfold maxLen at this; omega
      clear hf h hl hss
      go_enter Tryz.func85, Tryz.ntmps85
      go_wp2_with fail
      go_loopw [18] (fun i wr => ∃ j : Nat, j ≤ p ∧ i = .int .i64 (j : Int) ∧ riseN l j = true ∧ wr = w) (fun i _ => p - (intOf i).toNat)
      case atStart => exact ⟨0, Nat.zero_le _, rfl, rfl, rfl⟩
      case round =>
        obtain ⟨j, hjn, rfl, hall, rfl⟩ := hrel
        have bj0 : (0 : Int) ≤ (j : Int) := by omega
        by_cases hj : j < p
        · have hji : (j : Int) < (p : Int) := by omega
          have hjc : (j : Int) ≤ (cap : Int) := by omega
          have hm := riseN_more l (n := j) (by rw [HL.out]; omega)
          rw [hall, Bool.true_and] at hm
          have hno := fun h => riseN_no (l := l) (n := j + 1) (m := p) h (by omega)
          have hfo := follows_any a j cap (l.take j) (nth l j) (nth_sz HSS.out j) (by omega) wr (H.out.take (by omega))
          obtain ⟨ad, rfl, hc⟩ := H.out.at_ hj
          rw [← hm] at hfo
          have HNO := Lib.hid hno
          have HFO := Lib.hid hfo
          clear hall hno hfo hm
          generalize nth l j = x at *
          generalize hb : riseN l (j + 1) = b at *
          have HB := Lib.hid hb
          clear hb
          cases b
          · skip
            go_wp2_with fail
            refine HFO.out.mono ?_
            rintro e w' ⟨rfl, rfl⟩
            go_wp2_with fail
            go_ret
            exact ⟨by rw [HF.out, HNO.out trivial]; rfl, rfl⟩
          · skip
            go_wp2_with fail
            refine HFO.out.mono ?_
            rintro e w' ⟨rfl, rfl⟩
            go_wp2_with fail
            go_roundw
            case rel => exact ⟨j + 1, by omega, by go_num, HB.out, by first | rfl | trivial⟩
            case measure => simp [intOf] <;> omega
        · obtain rfl : j = p := by omega
          have HA := Lib.hid hall
          clear hall
          go_wp2_with fail
          go_ret
          exact ⟨by rw [HF.out, HA.out]; rfl, rfl⟩
    · have HF := Lib.hid (show fieldsB l p = false by unfold fieldsB; rw [hl, decide_eq_false hp, Bool.and_false]; rfl)
      have gp : ¬ (n : Int) = (p : Int) := by omega
      have gpb : ((n : Int) == (p : Int)) = false := beq_eq_false_iff_ne.2 gp
      have gpc : ((n : Int) != (p : Int)) = true := bne_iff_ne.2 gp
      clear h hl hss
      go_enter Tryz.func85, Tryz.ntmps85
      go_wp2_with fail
      go_ret
      exact ⟨by rw [HF.out]; rfl, rfl⟩
  · have HF := Lib.hid (show fieldsB l p = false by unfold fieldsB; rw [hl, decide_eq_false h8]; rfl)
    have g8 : (n : Int) > 8 := by omega
    have g8b : ¬ (n : Int) ≤ 8 := by omega
    have g8c : (8 : Int) < (n : Int) := by omega
    clear h hl hss
    go_enter Tryz.func85, Tryz.ntmps85
    go_wp2_with fail
    go_ret
    exact ⟨by rw [HF.out]; rfl, rfl⟩

/-- The first one of so many; -1, if there is none. -/
def IsFirst (p : Nat → Bool) (n : Nat) (r : Int) : Prop := (r = -1 ∧ ∀ j, j < n → p j = false) ∨ ∃ i : Nat, i < n ∧ r = (i : Int) ∧ p i = true ∧ ∀ j, j < i → p j = false
theorem IsFirst.any {p : Nat → Bool} {n : Nat} {r : Int} (h : IsFirst p n r) : decide (0 ≤ r) = (List.range n).any p := by
  rw [Bool.eq_iff_iff, decide_eq_true_eq, List.any_eq_true]
  rcases h with ⟨rfl, h⟩ | ⟨i, hi, rfl, h, _⟩
  · refine ⟨fun h => by omega, fun ⟨j, hj, hp⟩ => ?_⟩
    rw [h j (List.mem_range.1 hj)] at hp
    cases hp
  · exact ⟨fun _ => ⟨i, List.mem_range.2 hi, h⟩, fun _ => by omega⟩
set_option maxHeartbeats 800000 in
theorem index_any (a : Option Addr) (n cap : Nat) (l : List Int) (v : Int) (hn : n ≤ 9223372036854775807) (w : World) (h : Nums w a n l) :
    Calls Tryz.prog 120 #[.slice a n cap, .int .u64 v] w fun e w' => (∃ r, e = .returned (.int .i64 r) ∧ IsFirst (fun j => decide (l.getD j 0 = v)) n r) ∧ w' = w := by
  have H := Lib.hid h
  clear h
  go_enter Tryz.func120, Tryz.ntmps120
  go_wp2_with fail
  go_loopw [8] (fun i wr => ∃ j : Nat, j ≤ n ∧ i = .int .i64 (j : Int) ∧ (∀ i, i < j → decide (l.getD i 0 = v) = false) ∧ wr = w) (fun i _ => n - (intOf i).toNat)
  case atStart => exact ⟨0, Nat.zero_le _, rfl, fun _ h => absurd h (Nat.not_lt_zero _), rfl⟩
  case round =>
    obtain ⟨j, hjn, rfl, hall, rfl⟩ := hrel
    have bj0 : (0 : Int) ≤ (j : Int) := by omega
    by_cases hj : j < n
    · have hji : (j : Int) < (n : Int) := by omega
      obtain ⟨ad, rfl, hc⟩ := H.out.at_ hj
      have HA := Lib.hid hall
      clear hall
      obtain ⟨x, hx⟩ : ∃ x, l.getD j 0 = x := ⟨_, rfl⟩
      rw [hx] at hc
      have HX := Lib.hid hx
      clear hx
      by_cases he : v = x
      · subst he
        go_wp2_with fail
        go_ret
        exact ⟨⟨_, rfl, .inr ⟨j, hj, rfl, by show decide (l.getD j 0 = v) = true; rw [HX.out]; exact decide_eq_true rfl, HA.out⟩⟩, rfl⟩
      · have heb : (v == x) = false := beq_eq_false_iff_ne.2 he
        go_wp2_with fail
        go_roundw
        case rel =>
          refine ⟨j + 1, by omega, by go_num, fun i hi => ?_, by first | rfl | trivial⟩
          by_cases hij : i = j
          · subst hij
            rw [HX.out]
            exact decide_eq_false (fun e => he e.symm)
          · exact HA.out i (by omega)
        case measure => simp [intOf] <;> omega
    · obtain rfl : j = n := by omega
      have HA := Lib.hid hall
      clear hall
      go_wp2_with fail
      go_ret
      exact ⟨⟨_, rfl, .inl ⟨rfl, HA.out⟩⟩, rfl⟩
theorem contains_any (a : Option Addr) (n cap : Nat) (l : List Int) (v : Int) (hn : n ≤ 9223372036854775807) (w : World) (h : Nums w a n l) :
    Calls Tryz.prog 116 #[.slice a n cap, .int .u64 v] w fun e w' => e = .returned (.bool ((List.range n).any fun j => decide (l.getD j 0 = v))) ∧ w' = w := by
  have HI := Lib.hid (index_any a n cap l v hn w h)
  clear h
  go_enter Tryz.func116, Tryz.ntmps116
  go_wp2_with fail
  refine HI.out.mono ?_
  rintro e w' ⟨⟨r, rfl, hr⟩, rfl⟩
  have HR := Lib.hid hr.any
  clear hr
  go_wp2_with fail
  go_ret
  exact ⟨by rw [← HR.out]; rfl, rfl⟩
/-- Whether an element's number may stand behind these. -/
def freshB (l : List Int) (n : Nat) (v : Int) : Bool := decide (v ≠ 0) && (List.range n).all fun j => decide (v ≠ l.getD j 0)
theorem freshB_eq (l : List Int) (n : Nat) (v : Int) : freshB l n v = (decide (v ≠ 0) && !(List.range n).any fun j => decide (l.getD j 0 = v)) := by
  unfold freshB
  congr 1
  rw [Bool.eq_iff_iff, Bool.not_eq_true', ← Bool.not_eq_true, List.any_eq_true, List.all_eq_true]
  constructor
  · rintro h ⟨j, hj, he⟩
    have h1 := h j hj
    rw [decide_eq_true_eq] at h1 he
    exact h1 he.symm
  · intro h j hj
    rw [decide_eq_true_eq]
    exact fun e => h ⟨j, hj, decide_eq_true e.symm⟩
theorem fresh_any (a : Option Addr) (n cap : Nat) (l : List Int) (v : Int) (hn : n ≤ 9223372036854775807) (w : World) (h : Nums w a n l) :
    Calls Tryz.prog 103 #[.slice a n cap, .int .u64 v] w fun e w' => e = .returned (.bool (freshB l n v)) ∧ w' = w := by
  have HC := Lib.hid (contains_any a n cap l v hn w h)
  have HE := Lib.hid (freshB_eq l n v)
  clear h
  by_cases h0 : v = 0
  · subst h0
    go_enter Tryz.func103, Tryz.ntmps103
    go_wp2_with fail
    go_ret
    exact ⟨by rw [HE.out]; rfl, rfl⟩
  · have g0 : (v == 0) = false := beq_eq_false_iff_ne.2 h0
    have g1 : (v != 0) = true := bne_iff_ne.2 h0
    have HE2 := Lib.hid (show freshB l n v = !((List.range n).any fun j => decide (l.getD j 0 = v)) by rw [HE.out, decide_eq_true h0]; rfl)
    clear HE
    generalize ((List.range n).any fun j => decide (l.getD j 0 = v)) = b at *
    cases b
    · go_enter Tryz.func103, Tryz.ntmps103
      go_wp2_with fail
      refine HC.out.mono ?_
      rintro e w' ⟨rfl, rfl⟩
      go_wp2_with fail
      go_ret
      exact ⟨by rw [HE2.out]; rfl, rfl⟩
    · go_enter Tryz.func103, Tryz.ntmps103
      go_wp2_with fail
      refine HC.out.mono ?_
      rintro e w' ⟨rfl, rfl⟩
      go_wp2_with fail
      go_ret
      exact ⟨by rw [HE2.out]; rfl, rfl⟩

theorem fresh_take (l : List Int) (i : Nat) (v : Int) : freshB (l.take i) i v = freshB l i v := by
  unfold freshB
  rw [Bool.eq_iff_iff]
  simp only [Bool.and_eq_true, List.all_eq_true, List.mem_range]
  exact ⟨fun h => ⟨h.1, fun j hj => by have := h.2 j hj; rwa [getD_take hj] at this⟩, fun h => ⟨h.1, fun j hj => by rw [getD_take hj]; exact h.2 j hj⟩⟩
def idsN (l : List Int) (n : Nat) : Bool := (List.range n).all fun i => freshB l i (l.getD i 0)
theorem idsN_more (l : List Int) {n : Nat} (hn : n ≤ l.length) : idsN l (n + 1) = (idsN l n && freshB l n (l.getD n 0)) := by
  unfold idsN
  rw [List.range_succ, List.all_append]
  simp only [List.all_cons, List.all_nil, Bool.and_true]
theorem idsN_no {l : List Int} {n m : Nat} (h : idsN l n = false) (hm : n ≤ m) : idsN l m = false := by
  unfold idsN at *
  rw [← Bool.not_eq_true, List.all_eq_true] at *
  exact fun h' => h fun i hi => h' i (List.mem_range.2 (by have := List.mem_range.1 hi; omega))
theorem ids_n (l : List Int) : idsB l = idsN l l.length := rfl
def elemsB (l : List Int) (parts : Nat) : Bool := decide (l.length ≤ 12) && decide (parts = l.length) && idsB l
set_option maxHeartbeats 800000 in
theorem elements_any (a : Option Addr) (n cap : Nat) (l : List Int) (hn : n ≤ cap ∧ cap ≤ maxLen) (p : Nat) (w : World) (h : Nums w a n l) :
    Calls Tryz.prog 86 #[.slice a n cap, .int .i64 (p : Int)] w fun e w' => e = .returned (.bool (elemsB l p)) ∧ w' = w := by
  have hl := h.len
  by_cases h8 : n ≤ 12
  · have g8 : ¬ (n : Int) > 12 := by omega
    have g8b : (n : Int) ≤ 12 := by omega
    by_cases hp : p = n
    · subst hp
      have hf : elemsB l p = idsN l p := by unfold elemsB; rw [hl, decide_eq_true h8, decide_eq_true rfl, ids_n, hl]; rfl
      have HF := Lib.hid hf
      have H := Lib.hid h
      have HL := Lib.hid hl
      have hn1 : p ≤ cap := hn.1
      have hn2 : (cap : Int) ≤ 9223372036854775807 := by have := hn.2; unfold maxLen at this; omega
      clear hf h hl
      go_enter Tryz.func86, Tryz.ntmps86
      go_wp2_with fail
      go_loopw [18] (fun i wr => ∃ j : Nat, j ≤ p ∧ i = .int .i64 (j : Int) ∧ idsN l j = true ∧ wr = w) (fun i _ => p - (intOf i).toNat)
      case atStart => exact ⟨0, Nat.zero_le _, rfl, rfl, rfl⟩
      case round =>
        obtain ⟨j, hjn, rfl, hall, rfl⟩ := hrel
        have bj0 : (0 : Int) ≤ (j : Int) := by omega
        by_cases hj : j < p
        · have hji : (j : Int) < (p : Int) := by omega
          have hjc : (j : Int) ≤ (cap : Int) := by omega
          have hm := idsN_more l (n := j) (by rw [HL.out]; omega)
          rw [hall, Bool.true_and] at hm
          have hno := fun h => idsN_no (l := l) (n := j + 1) (m := p) h (by omega)
          have hfo := fresh_any a j cap (l.take j) (l.getD j 0) (by omega) wr (H.out.take (by omega))
          obtain ⟨ad, rfl, hc⟩ := H.out.at_ hj
          rw [fresh_take, ← hm] at hfo
          have HNO := Lib.hid hno
          have HFO := Lib.hid hfo
          clear hall hno hfo hm
          generalize l.getD j 0 = x at *
          generalize hb : idsN l (j + 1) = b at *
          have HB := Lib.hid hb
          clear hb
          cases b
          · skip
            go_wp2_with fail
            refine HFO.out.mono ?_
            rintro e w' ⟨rfl, rfl⟩
            go_wp2_with fail
            go_ret
            exact ⟨by rw [HF.out, HNO.out trivial]; rfl, rfl⟩
          · skip
            go_wp2_with fail
            refine HFO.out.mono ?_
            rintro e w' ⟨rfl, rfl⟩
            go_wp2_with fail
            go_roundw
            case rel => exact ⟨j + 1, by omega, by go_num, HB.out, by first | rfl | trivial⟩
            case measure => simp [intOf] <;> omega
        · obtain rfl : j = p := by omega
          have HA := Lib.hid hall
          clear hall
          go_wp2_with fail
          go_ret
          exact ⟨by rw [HF.out, HA.out]; rfl, rfl⟩
    · have HF := Lib.hid (show elemsB l p = false by unfold elemsB; rw [hl, decide_eq_false hp, Bool.and_false]; rfl)
      have gp : ¬ (n : Int) = (p : Int) := by omega
      have gpb : ((n : Int) == (p : Int)) = false := beq_eq_false_iff_ne.2 gp
      have gpc : ((n : Int) != (p : Int)) = true := bne_iff_ne.2 gp
      clear h hl
      go_enter Tryz.func86, Tryz.ntmps86
      go_wp2_with fail
      go_ret
      exact ⟨by rw [HF.out]; rfl, rfl⟩
  · have HF := Lib.hid (show elemsB l p = false by unfold elemsB; rw [hl, decide_eq_false h8]; rfl)
    have g8 : (n : Int) > 12 := by omega
    have g8b : ¬ (n : Int) ≤ 12 := by omega
    have g8c : (12 : Int) < (n : Int) := by omega
    clear h hl
    go_enter Tryz.func86, Tryz.ntmps86
    go_wp2_with fail
    go_ret
    exact ⟨by rw [HF.out]; rfl, rfl⟩
end

section
set_option maxRecDepth 100000
set_option linter.unusedSimpArgs false
set_option linter.unusedVariables false
open Go.RowKit

def hasB (l : List ByteArray) (n : Nat) (s : ByteArray) : Bool := (List.range n).any fun j => eqS (nth l j) s
/-- Whether a word may stand behind these. -/
def newB (l : List ByteArray) (n : Nat) (s : ByteArray) : Bool := nameB s && (List.range n).all fun j => !eqS s (nth l j)
theorem eqS_comm (a b : ByteArray) : eqS a b = eqS b a := by unfold eqS; rw [Bool.eq_iff_iff, beq_iff_eq, beq_iff_eq]; exact eq_comm
theorem newB_eq (l : List ByteArray) (n : Nat) (s : ByteArray) : newB l n s = (nameB s && !hasB l n s) := by
  unfold newB hasB
  congr 1
  rw [Bool.eq_iff_iff, Bool.not_eq_true', ← Bool.not_eq_true, List.any_eq_true, List.all_eq_true]
  constructor
  · rintro h ⟨j, hj, he⟩
    have h1 := h j hj
    rw [eqS_comm, he] at h1
    cases h1
  · intro h j hj
    rw [Bool.not_eq_true', ← Bool.not_eq_true, eqS_comm]
    exact fun e => h ⟨j, hj, e⟩
theorem newB_take (l : List ByteArray) (i : Nat) (v : ByteArray) : newB (l.take i) i v = newB l i v := by
  unfold newB
  rw [Bool.eq_iff_iff]
  simp only [Bool.and_eq_true, List.all_eq_true, List.mem_range]
  exact ⟨fun h => ⟨h.1, fun j hj => by have := h.2 j hj; rwa [nth_take hj] at this⟩, fun h => ⟨h.1, fun j hj => by rw [nth_take hj]; exact h.2 j hj⟩⟩
def wordsN (l : List ByteArray) (n : Nat) : Bool := (List.range n).all fun i => newB l i (nth l i)
theorem wordsN_more (l : List ByteArray) {n : Nat} : wordsN l (n + 1) = (wordsN l n && newB l n (nth l n)) := by
  unfold wordsN
  rw [List.range_succ, List.all_append]
  simp only [List.all_cons, List.all_nil, Bool.and_true]
theorem wordsN_no {l : List ByteArray} {n m : Nat} (h : wordsN l n = false) (hm : n ≤ m) : wordsN l m = false := by
  unfold wordsN at *
  rw [← Bool.not_eq_true, List.all_eq_true] at *
  exact fun h' => h fun i hi => h' i (List.mem_range.2 (by have := List.mem_range.1 hi; omega))
theorem words_n (l : List ByteArray) : wordsB l = wordsN l l.length := rfl
def choiceB (l : List ByteArray) : Bool := decide (1 ≤ l.length) && decide (l.length ≤ 8) && wordsB l
end

section
set_option maxRecDepth 100000
set_option linter.unusedSimpArgs false
set_option linter.unusedVariables false
open Go.RowKit

theorem toL_nil (s : ByteArray) : s.toList = [] ↔ s = ByteArray.empty := by
  rw [ByteArray.toList_eq]
  constructor
  · intro h
    have h1 : s.data = #[] := by simpa using h
    cases s
    simp only at h1
    subst h1
    rfl
  · rintro rfl; rfl
theorem beqz (n : Nat) : ((n : Int) == 0) = decide (n = 0) := by rw [Bool.eq_iff_iff, beq_iff_eq, decide_eq_true_eq]; omega
theorem ieqz (n : Int) : (n == 0) = decide (n = 0) := by rw [Bool.eq_iff_iff, beq_iff_eq, decide_eq_true_eq]
theorem ieq1 (n : Int) : (n == 1) = decide (n = 1) := by rw [Bool.eq_iff_iff, beq_iff_eq, decide_eq_true_eq]
def bareB (k n : Int) (s : ByteArray) (nl il len : Nat) : Bool :=
  if k = 1 ∨ k = 2 then decide (s.size = 0) && decide (nl = 0) && decide (il = 0) && decide (len = 0)
  else if k = 3 ∨ k = 4 then decide (n = 0) && decide (nl = 0) && decide (il = 0) && decide (len = 0)
  else if k = 5 then decide (n = 0) && decide (s.size = 0) && decide (il = 0)
  else if k = 6 then decide (n = 0) && decide (s.size = 0) && decide (nl = 0)
  else decide (n = 0) && decide (s.size = 0) && decide (nl = 0) && decide (il = 0) && decide (len = 0)
def fitB (k n : Int) (s : ByteArray) (names : List ByteArray) (ids : List Int) (len : Nat) : Bool :=
  if k = 1 then decide (n = 0 ∨ n = 1) else if k = 2 then true else if k = 3 then decide (s.size ≤ 64) else if k = 4 then nameB s
  else if k = 5 then fieldsB names len else if k = 6 then elemsB ids len else false
theorem head_eq (k n : Int) (s : ByteArray) (names : List ByteArray) (ids : List Int) (len : Nat) : headV k n s names ids len = (bareB k n s names.length ids.length len && fitB k n s names ids len) := by
  unfold headV bareB fitB fieldsB elemsB
  by_cases h1 : k = 1
  · subst h1; simp; rw [Bool.eq_iff_iff]; simp [and_assoc, and_comm, and_left_comm]
  by_cases h2 : k = 2
  · subst h2; simp
  by_cases h3 : k = 3
  · subst h3; simp; rw [Bool.eq_iff_iff]; simp [and_assoc, and_comm, and_left_comm]
  by_cases h4 : k = 4
  · subst h4; simp; rw [Bool.eq_iff_iff]; simp [and_assoc, and_comm, and_left_comm]
  by_cases h5 : k = 5
  · subst h5; simp; rw [Bool.eq_iff_iff]; simp [and_assoc]
  by_cases h6 : k = 6
  · subst h6; simp; rw [Bool.eq_iff_iff]; simp [and_assoc]
  simp [h1, h2, h3, h4, h5, h6]
theorem bare_1 (n : Int) (s : ByteArray) (a b c : Option Addr) (la ca lb cb lc cc : Nat) (w : World) :
    Calls Tryz.prog 56 #[.agg #[.int .i64 1, .int .i64 n, .string s, .slice a la ca, .slice b lb cb, .slice c lc cc]] w fun e w' => e = .returned (.bool (bareB 1 n s la lb lc)) ∧ Below w.heap.size w w' := by
  have hb : bareB 1 n s la lb lc = (decide (s.size = 0) && decide (la = 0) && decide (lb = 0) && decide (lc = 0)) := by rfl
  have HB := Lib.hid hb
  clear hb
  go_enter Tryz.func56, Tryz.ntmps56
  go_wp2_with fail
  all_goals go_ret
  all_goals refine ⟨?_, Below.alloc1 w _⟩
  all_goals rw [HB.out]
  all_goals clear HB
  all_goals simp_all [beqz, ieqz, toL_nil]
theorem bare_2 (n : Int) (s : ByteArray) (a b c : Option Addr) (la ca lb cb lc cc : Nat) (w : World) :
    Calls Tryz.prog 56 #[.agg #[.int .i64 2, .int .i64 n, .string s, .slice a la ca, .slice b lb cb, .slice c lc cc]] w fun e w' => e = .returned (.bool (bareB 2 n s la lb lc)) ∧ Below w.heap.size w w' := by
  have hb : bareB 2 n s la lb lc = (decide (s.size = 0) && decide (la = 0) && decide (lb = 0) && decide (lc = 0)) := by rfl
  have HB := Lib.hid hb
  clear hb
  go_enter Tryz.func56, Tryz.ntmps56
  go_wp2_with fail
  all_goals go_ret
  all_goals refine ⟨?_, Below.alloc1 w _⟩
  all_goals rw [HB.out]
  all_goals clear HB
  all_goals simp_all [beqz, ieqz, toL_nil]
theorem bare_3 (n : Int) (s : ByteArray) (a b c : Option Addr) (la ca lb cb lc cc : Nat) (w : World) :
    Calls Tryz.prog 56 #[.agg #[.int .i64 3, .int .i64 n, .string s, .slice a la ca, .slice b lb cb, .slice c lc cc]] w fun e w' => e = .returned (.bool (bareB 3 n s la lb lc)) ∧ Below w.heap.size w w' := by
  have hb : bareB 3 n s la lb lc = (decide (n = 0) && decide (la = 0) && decide (lb = 0) && decide (lc = 0)) := by rfl
  have HB := Lib.hid hb
  clear hb
  go_enter Tryz.func56, Tryz.ntmps56
  go_wp2_with fail
  all_goals go_ret
  all_goals refine ⟨?_, Below.alloc1 w _⟩
  all_goals rw [HB.out]
  all_goals clear HB
  all_goals simp_all [beqz, ieqz, toL_nil]
theorem bare_4 (n : Int) (s : ByteArray) (a b c : Option Addr) (la ca lb cb lc cc : Nat) (w : World) :
    Calls Tryz.prog 56 #[.agg #[.int .i64 4, .int .i64 n, .string s, .slice a la ca, .slice b lb cb, .slice c lc cc]] w fun e w' => e = .returned (.bool (bareB 4 n s la lb lc)) ∧ Below w.heap.size w w' := by
  have hb : bareB 4 n s la lb lc = (decide (n = 0) && decide (la = 0) && decide (lb = 0) && decide (lc = 0)) := by rfl
  have HB := Lib.hid hb
  clear hb
  go_enter Tryz.func56, Tryz.ntmps56
  go_wp2_with fail
  all_goals go_ret
  all_goals refine ⟨?_, Below.alloc1 w _⟩
  all_goals rw [HB.out]
  all_goals clear HB
  all_goals simp_all [beqz, ieqz, toL_nil]
theorem bare_5 (n : Int) (s : ByteArray) (a b c : Option Addr) (la ca lb cb lc cc : Nat) (w : World) :
    Calls Tryz.prog 56 #[.agg #[.int .i64 5, .int .i64 n, .string s, .slice a la ca, .slice b lb cb, .slice c lc cc]] w fun e w' => e = .returned (.bool (bareB 5 n s la lb lc)) ∧ Below w.heap.size w w' := by
  have hb : bareB 5 n s la lb lc = (decide (n = 0) && decide (s.size = 0) && decide (lb = 0)) := by rfl
  have HB := Lib.hid hb
  clear hb
  go_enter Tryz.func56, Tryz.ntmps56
  go_wp2_with fail
  all_goals go_ret
  all_goals refine ⟨?_, Below.alloc1 w _⟩
  all_goals rw [HB.out]
  all_goals clear HB
  all_goals simp_all [beqz, ieqz, toL_nil]
theorem bare_6 (n : Int) (s : ByteArray) (a b c : Option Addr) (la ca lb cb lc cc : Nat) (w : World) :
    Calls Tryz.prog 56 #[.agg #[.int .i64 6, .int .i64 n, .string s, .slice a la ca, .slice b lb cb, .slice c lc cc]] w fun e w' => e = .returned (.bool (bareB 6 n s la lb lc)) ∧ Below w.heap.size w w' := by
  have hb : bareB 6 n s la lb lc = (decide (n = 0) && decide (s.size = 0) && decide (la = 0)) := by rfl
  have HB := Lib.hid hb
  clear hb
  go_enter Tryz.func56, Tryz.ntmps56
  go_wp2_with fail
  all_goals go_ret
  all_goals refine ⟨?_, Below.alloc1 w _⟩
  all_goals rw [HB.out]
  all_goals clear HB
  all_goals simp_all [beqz, ieqz, toL_nil]
theorem bare_0 (k : Int) (n : Int) (s : ByteArray) (a b c : Option Addr) (la ca lb cb lc cc : Nat) (h1 : ¬ k = 1) (h2 : ¬ k = 2) (h3 : ¬ k = 3) (h4 : ¬ k = 4) (h5 : ¬ k = 5) (h6 : ¬ k = 6) (w : World) :
    Calls Tryz.prog 56 #[.agg #[.int .i64 k, .int .i64 n, .string s, .slice a la ca, .slice b lb cb, .slice c lc cc]] w fun e w' => e = .returned (.bool (bareB k n s la lb lc)) ∧ Below w.heap.size w w' := by
  have hb : bareB k n s la lb lc = (decide (n = 0) && decide (s.size = 0) && decide (la = 0) && decide (lb = 0) && decide (lc = 0)) := by unfold bareB; rw [if_neg (by omega), if_neg (by omega), if_neg h5, if_neg h6]
  have HB := Lib.hid hb
  clear hb
  have g1 : (k == 1) = false := beq_eq_false_iff_ne.2 h1
  have g2 : (k == 2) = false := beq_eq_false_iff_ne.2 h2
  have g3 : (k == 3) = false := beq_eq_false_iff_ne.2 h3
  have g4 : (k == 4) = false := beq_eq_false_iff_ne.2 h4
  have g5 : (k == 5) = false := beq_eq_false_iff_ne.2 h5
  have g6 : (k == 6) = false := beq_eq_false_iff_ne.2 h6
  go_enter Tryz.func56, Tryz.ntmps56
  go_wp2_with fail
  all_goals go_ret
  all_goals refine ⟨?_, Below.alloc1 w _⟩
  all_goals rw [HB.out]
  all_goals clear HB
  all_goals simp_all [beqz, ieqz, toL_nil]
theorem bare_any (k n : Int) (s : ByteArray) (a b c : Option Addr) (la ca lb cb lc cc : Nat) (w : World) :
    Calls Tryz.prog 56 #[.agg #[.int .i64 k, .int .i64 n, .string s, .slice a la ca, .slice b lb cb, .slice c lc cc]] w fun e w' => e = .returned (.bool (bareB k n s la lb lc)) ∧ Below w.heap.size w w' := by
  by_cases h1 : k = 1
  · subst h1; exact bare_1 n s a b c la ca lb cb lc cc w
  by_cases h2 : k = 2
  · subst h2; exact bare_2 n s a b c la ca lb cb lc cc w
  by_cases h3 : k = 3
  · subst h3; exact bare_3 n s a b c la ca lb cb lc cc w
  by_cases h4 : k = 4
  · subst h4; exact bare_4 n s a b c la ca lb cb lc cc w
  by_cases h5 : k = 5
  · subst h5; exact bare_5 n s a b c la ca lb cb lc cc w
  by_cases h6 : k = 6
  · subst h6; exact bare_6 n s a b c la ca lb cb lc cc w
  exact bare_0 k n s a b c la ca lb cb lc cc h1 h2 h3 h4 h5 h6 w
theorem fit_1 (n : Int) (s : ByteArray) (names : List ByteArray) (ids : List Int) (a b c : Option Addr) (la ca lb cb lc cc : Nat) (hs : s.size ≤ maxLen) (hss : ∀ x ∈ names, x.size ≤ maxLen) (hac : la ≤ ca ∧ ca ≤ maxLen) (hbc : lb ≤ cb ∧ cb ≤ maxLen) (w : World) (ha : Strs w a la names) (hb : Nums w b lb ids) :
    Calls Tryz.prog 57 #[.agg #[.int .i64 1, .int .i64 n, .string s, .slice a la ca, .slice b lb cb, .slice c lc cc]] w fun e w' => e = .returned (.bool (fitB 1 n s names ids lc)) ∧ Below w.heap.size w w' := by
  have hf : fitB 1 n s names ids lc = (decide (n = 0 ∨ n = 1)) := by rfl
  have HF := Lib.hid hf
  have HW := Lib.hid (Below.alloc1 w (.cells #[.int .i64 1, .int .i64 n, .string s, .slice a la ca, .slice b lb cb, .slice c lc cc] 26))
  clear hf hs hss hac hbc ha hb
  go_enter Tryz.func57, Tryz.ntmps57
  go_wp2_with fail
  all_goals go_ret
  all_goals refine ⟨?_, Below.alloc1 w _⟩
  all_goals rw [HF.out]
  all_goals clear HF HW
  all_goals simp_all [ieqz, ieq1]
theorem fit_2 (n : Int) (s : ByteArray) (names : List ByteArray) (ids : List Int) (a b c : Option Addr) (la ca lb cb lc cc : Nat) (hs : s.size ≤ maxLen) (hss : ∀ x ∈ names, x.size ≤ maxLen) (hac : la ≤ ca ∧ ca ≤ maxLen) (hbc : lb ≤ cb ∧ cb ≤ maxLen) (w : World) (ha : Strs w a la names) (hb : Nums w b lb ids) :
    Calls Tryz.prog 57 #[.agg #[.int .i64 2, .int .i64 n, .string s, .slice a la ca, .slice b lb cb, .slice c lc cc]] w fun e w' => e = .returned (.bool (fitB 2 n s names ids lc)) ∧ Below w.heap.size w w' := by
  have hf : fitB 2 n s names ids lc = (true) := by rfl
  have HF := Lib.hid hf
  have HW := Lib.hid (Below.alloc1 w (.cells #[.int .i64 2, .int .i64 n, .string s, .slice a la ca, .slice b lb cb, .slice c lc cc] 26))
  clear hf hs hss hac hbc ha hb
  go_enter Tryz.func57, Tryz.ntmps57
  go_wp2_with fail
  all_goals go_ret
  all_goals exact ⟨by rw [HF.out]; rfl, Below.alloc1 w _⟩
theorem fit_3 (n : Int) (s : ByteArray) (names : List ByteArray) (ids : List Int) (a b c : Option Addr) (la ca lb cb lc cc : Nat) (hs : s.size ≤ maxLen) (hss : ∀ x ∈ names, x.size ≤ maxLen) (hac : la ≤ ca ∧ ca ≤ maxLen) (hbc : lb ≤ cb ∧ cb ≤ maxLen) (w : World) (ha : Strs w a la names) (hb : Nums w b lb ids) :
    Calls Tryz.prog 57 #[.agg #[.int .i64 3, .int .i64 n, .string s, .slice a la ca, .slice b lb cb, .slice c lc cc]] w fun e w' => e = .returned (.bool (fitB 3 n s names ids lc)) ∧ Below w.heap.size w w' := by
  have hf : fitB 3 n s names ids lc = (decide (s.size ≤ 64)) := by rfl
  have HF := Lib.hid hf
  have HW := Lib.hid (Below.alloc1 w (.cells #[.int .i64 3, .int .i64 n, .string s, .slice a la ca, .slice b lb cb, .slice c lc cc] 26))
  clear hf hs hss hac hbc ha hb
  go_enter Tryz.func57, Tryz.ntmps57
  go_wp2_with fail
  all_goals go_ret
  all_goals refine ⟨?_, Below.alloc1 w _⟩
  all_goals rw [HF.out]
  all_goals clear HF HW
  all_goals simp
  all_goals try (first | rfl | omega | (rw [Bool.eq_iff_iff]; simp <;> omega))
theorem fit_4 (n : Int) (s : ByteArray) (names : List ByteArray) (ids : List Int) (a b c : Option Addr) (la ca lb cb lc cc : Nat) (hs : s.size ≤ maxLen) (hss : ∀ x ∈ names, x.size ≤ maxLen) (hac : la ≤ ca ∧ ca ≤ maxLen) (hbc : lb ≤ cb ∧ cb ≤ maxLen) (w : World) (ha : Strs w a la names) (hb : Nums w b lb ids) :
    Calls Tryz.prog 57 #[.agg #[.int .i64 4, .int .i64 n, .string s, .slice a la ca, .slice b lb cb, .slice c lc cc]] w fun e w' => e = .returned (.bool (fitB 4 n s names ids lc)) ∧ Below w.heap.size w w' := by
  have hf : fitB 4 n s names ids lc = (nameB s) := by rfl
  have HF := Lib.hid hf
  have HW := Lib.hid (Below.alloc1 w (.cells #[.int .i64 4, .int .i64 n, .string s, .slice a la ca, .slice b lb cb, .slice c lc cc] 26))
  have HC := Lib.hid (vname_any s hs (w.alloc (.cells #[.int .i64 4, .int .i64 n, .string s, .slice a la ca, .slice b lb cb, .slice c lc cc] 26)))
  clear hf hs hss hac hbc ha hb
  go_enter Tryz.func57, Tryz.ntmps57
  go_wp2_with fail
  refine HC.out.mono ?_
  rintro e w' ⟨rfl, rfl⟩
  go_wp2_with fail
  go_ret
  exact ⟨by rw [HF.out]; rfl, HW.out⟩
theorem fit_5 (n : Int) (s : ByteArray) (names : List ByteArray) (ids : List Int) (a b c : Option Addr) (la ca lb cb lc cc : Nat) (hs : s.size ≤ maxLen) (hss : ∀ x ∈ names, x.size ≤ maxLen) (hac : la ≤ ca ∧ ca ≤ maxLen) (hbc : lb ≤ cb ∧ cb ≤ maxLen) (w : World) (ha : Strs w a la names) (hb : Nums w b lb ids) :
    Calls Tryz.prog 57 #[.agg #[.int .i64 5, .int .i64 n, .string s, .slice a la ca, .slice b lb cb, .slice c lc cc]] w fun e w' => e = .returned (.bool (fitB 5 n s names ids lc)) ∧ Below w.heap.size w w' := by
  have hf : fitB 5 n s names ids lc = (fieldsB names lc) := by rfl
  have HF := Lib.hid hf
  have HW := Lib.hid (Below.alloc1 w (.cells #[.int .i64 5, .int .i64 n, .string s, .slice a la ca, .slice b lb cb, .slice c lc cc] 26))
  have HC := Lib.hid (fright_any a la ca names hss hac lc (w.alloc (.cells #[.int .i64 5, .int .i64 n, .string s, .slice a la ca, .slice b lb cb, .slice c lc cc] 26)) (ha.belowAll HW.out))
  clear hf hs hss hac hbc ha hb
  go_enter Tryz.func57, Tryz.ntmps57
  go_wp2_with fail
  refine HC.out.mono ?_
  rintro e w' ⟨rfl, rfl⟩
  go_wp2_with fail
  go_ret
  exact ⟨by rw [HF.out]; rfl, HW.out⟩
theorem fit_6 (n : Int) (s : ByteArray) (names : List ByteArray) (ids : List Int) (a b c : Option Addr) (la ca lb cb lc cc : Nat) (hs : s.size ≤ maxLen) (hss : ∀ x ∈ names, x.size ≤ maxLen) (hac : la ≤ ca ∧ ca ≤ maxLen) (hbc : lb ≤ cb ∧ cb ≤ maxLen) (w : World) (ha : Strs w a la names) (hb : Nums w b lb ids) :
    Calls Tryz.prog 57 #[.agg #[.int .i64 6, .int .i64 n, .string s, .slice a la ca, .slice b lb cb, .slice c lc cc]] w fun e w' => e = .returned (.bool (fitB 6 n s names ids lc)) ∧ Below w.heap.size w w' := by
  have hf : fitB 6 n s names ids lc = (elemsB ids lc) := by rfl
  have HF := Lib.hid hf
  have HW := Lib.hid (Below.alloc1 w (.cells #[.int .i64 6, .int .i64 n, .string s, .slice a la ca, .slice b lb cb, .slice c lc cc] 26))
  have HC := Lib.hid (elements_any b lb cb ids hbc lc (w.alloc (.cells #[.int .i64 6, .int .i64 n, .string s, .slice a la ca, .slice b lb cb, .slice c lc cc] 26)) (hb.belowAll HW.out))
  clear hf hs hss hac hbc ha hb
  go_enter Tryz.func57, Tryz.ntmps57
  go_wp2_with fail
  refine HC.out.mono ?_
  rintro e w' ⟨rfl, rfl⟩
  go_wp2_with fail
  go_ret
  exact ⟨by rw [HF.out]; rfl, HW.out⟩
theorem fit_0 (k : Int) (n : Int) (s : ByteArray) (names : List ByteArray) (ids : List Int) (a b c : Option Addr) (la ca lb cb lc cc : Nat) (h1 : ¬ k = 1) (h2 : ¬ k = 2) (h3 : ¬ k = 3) (h4 : ¬ k = 4) (h5 : ¬ k = 5) (h6 : ¬ k = 6) (hs : s.size ≤ maxLen) (hss : ∀ x ∈ names, x.size ≤ maxLen) (hac : la ≤ ca ∧ ca ≤ maxLen) (hbc : lb ≤ cb ∧ cb ≤ maxLen) (w : World) (ha : Strs w a la names) (hb : Nums w b lb ids) :
    Calls Tryz.prog 57 #[.agg #[.int .i64 k, .int .i64 n, .string s, .slice a la ca, .slice b lb cb, .slice c lc cc]] w fun e w' => e = .returned (.bool (fitB k n s names ids lc)) ∧ Below w.heap.size w w' := by
  have hf : fitB k n s names ids lc = (false) := by unfold fitB; rw [if_neg h1, if_neg h2, if_neg h3, if_neg h4, if_neg h5, if_neg h6]
  have HF := Lib.hid hf
  have HW := Lib.hid (Below.alloc1 w (.cells #[.int .i64 k, .int .i64 n, .string s, .slice a la ca, .slice b lb cb, .slice c lc cc] 26))
  have g1 : (k == 1) = false := beq_eq_false_iff_ne.2 h1
  have g2 : (k == 2) = false := beq_eq_false_iff_ne.2 h2
  have g3 : (k == 3) = false := beq_eq_false_iff_ne.2 h3
  have g4 : (k == 4) = false := beq_eq_false_iff_ne.2 h4
  have g5 : (k == 5) = false := beq_eq_false_iff_ne.2 h5
  have g6 : (k == 6) = false := beq_eq_false_iff_ne.2 h6
  clear hf hs hss hac hbc ha hb
  go_enter Tryz.func57, Tryz.ntmps57
  go_wp2_with fail
  all_goals go_ret
  all_goals exact ⟨by rw [HF.out]; rfl, Below.alloc1 w _⟩
theorem fit_any (k n : Int) (s : ByteArray) (names : List ByteArray) (ids : List Int) (a b c : Option Addr) (la ca lb cb lc cc : Nat) (hs : s.size ≤ maxLen) (hss : ∀ x ∈ names, x.size ≤ maxLen) (hac : la ≤ ca ∧ ca ≤ maxLen) (hbc : lb ≤ cb ∧ cb ≤ maxLen) (w : World) (ha : Strs w a la names) (hb : Nums w b lb ids) :
    Calls Tryz.prog 57 #[.agg #[.int .i64 k, .int .i64 n, .string s, .slice a la ca, .slice b lb cb, .slice c lc cc]] w fun e w' => e = .returned (.bool (fitB k n s names ids lc)) ∧ Below w.heap.size w w' := by
  by_cases h1 : k = 1
  · subst h1; exact fit_1 n s names ids a b c la ca lb cb lc cc hs hss hac hbc w ha hb
  by_cases h2 : k = 2
  · subst h2; exact fit_2 n s names ids a b c la ca lb cb lc cc hs hss hac hbc w ha hb
  by_cases h3 : k = 3
  · subst h3; exact fit_3 n s names ids a b c la ca lb cb lc cc hs hss hac hbc w ha hb
  by_cases h4 : k = 4
  · subst h4; exact fit_4 n s names ids a b c la ca lb cb lc cc hs hss hac hbc w ha hb
  by_cases h5 : k = 5
  · subst h5; exact fit_5 n s names ids a b c la ca lb cb lc cc hs hss hac hbc w ha hb
  by_cases h6 : k = 6
  · subst h6; exact fit_6 n s names ids a b c la ca lb cb lc cc hs hss hac hbc w ha hb
  exact fit_0 k n s names ids a b c la ca lb cb lc cc h1 h2 h3 h4 h5 h6 hs hss hac hbc w ha hb

set_option maxHeartbeats 800000 in
theorem if_right (a : Option Addr) (n cap : Nat) (css : Nat → List Value) (q : Value) (p : Nat → Bool) (hn : n ≤ 9223372036854775807) (w : World) (h : Parts w 6 a n css)
    (hf : ∀ j, j < n → ∀ w', Below w.heap.size w w' → Calls Tryz.prog 59 #[.agg (css j).toArray, q] w' fun e w'' => e = .returned (.bool (p j)) ∧ Below w'.heap.size w' w'') :
    Calls Tryz.prog 87 #[.slice a n cap, .func (.func 59) #[] #[q]] w fun e w' => (∃ r, e = .returned (.int .i64 r) ∧ IsFirst p n r) ∧ Below w.heap.size w w' := by
  have H := Lib.hid h
  have HF := Lib.hid hf
  clear h hf
  go_enter Tryz.func87, Tryz.ntmps87
  go_wp2_with fail
  go_loopw [8] (fun i wr => ∃ j : Nat, j ≤ n ∧ i = .int .i64 (j : Int) ∧ (∀ i, i < j → p i = false) ∧ Below w.heap.size w wr) (fun i _ => n - (intOf i).toNat)
  case atStart => exact ⟨0, Nat.zero_le _, rfl, fun _ h => absurd h (Nat.not_lt_zero _), Below.refl _ _⟩
  case round =>
    obtain ⟨j, hjn, rfl, hall, hw⟩ := hrel
    have bj0 : (0 : Int) ≤ (j : Int) := by omega
    by_cases hj : j < n
    · have hji : (j : Int) < (n : Int) := by omega
      obtain ⟨ad, rfl, hlen, hcell⟩ := (H.out.below hw).at_ hj
      have HIX := Lib.hid (ix_v ad n cap j hj wr)
      have HC := Lib.hid hcell
      have HL := Lib.hid (v_len hlen)
      clear hlen hcell
      have HA := Lib.hid hall
      have HW := Lib.hid hw
      have hfj := HF.out j hj wr hw
      obtain ⟨b, hb⟩ : ∃ b, p j = b := ⟨_, rfl⟩
      rw [hb] at hfj
      have HFJ := Lib.hid hfj
      have HB := Lib.hid hb
      clear hall hw hfj hb
      cases b
      · skip
        go_wp2_with (first
        | (refine wpList_indexAt rfl 24 (.tmp 12) (.tmp 13) rfl _ _ _ rfl rfl HIX.out ?_)
        | (refine wpList_load_at rfl 26 (.tmp 14) rfl (ad.add (j * 6)) rfl (css j) _ HC.out Tryz.underlying26 rfl HL.out ?_))
        refine HFJ.out.mono ?_
        rintro e W1 ⟨rfl, hbl⟩
        have HBL := Lib.hid hbl
        clear hbl
        go_wp2_with fail
        go_roundw
        case rel =>
          refine ⟨j + 1, by omega, by go_num, fun i hi => ?_, HW.out.trans (HBL.out.mono HW.out.size)⟩
          by_cases hij : i = j
          · subst hij; exact HB.out
          · exact HA.out i (by omega)
        case measure => simp [intOf] <;> omega
      · skip
        go_wp2_with (first
        | (refine wpList_indexAt rfl 24 (.tmp 12) (.tmp 13) rfl _ _ _ rfl rfl HIX.out ?_)
        | (refine wpList_load_at rfl 26 (.tmp 14) rfl (ad.add (j * 6)) rfl (css j) _ HC.out Tryz.underlying26 rfl HL.out ?_))
        refine HFJ.out.mono ?_
        rintro e W1 ⟨rfl, hbl⟩
        have HBL := Lib.hid hbl
        clear hbl
        go_wp2_with fail
        go_ret
        exact ⟨⟨_, rfl, .inr ⟨j, hj, rfl, HB.out, HA.out⟩⟩, HW.out.trans (HBL.out.mono HW.out.size)⟩
    · obtain rfl : j = n := by omega
      have HA := Lib.hid hall
      have HW := Lib.hid hw
      clear hall hw
      go_wp2_with fail
      go_ret
      exact ⟨⟨_, rfl, .inl ⟨rfl, HA.out⟩⟩, HW.out⟩
theorem cf_right (a : Option Addr) (n cap : Nat) (css : Nat → List Value) (q : Value) (p : Nat → Bool) (hn : n ≤ 9223372036854775807) (w : World) (h : Parts w 6 a n css)
    (hf : ∀ j, j < n → ∀ w', Below w.heap.size w w' → Calls Tryz.prog 59 #[.agg (css j).toArray, q] w' fun e w'' => e = .returned (.bool (p j)) ∧ Below w'.heap.size w' w'') :
    Calls Tryz.prog 58 #[.slice a n cap, .func (.func 59) #[] #[q]] w fun e w' => e = .returned (.bool ((List.range n).any p)) ∧ Below w.heap.size w w' := by
  have HI := Lib.hid (if_right a n cap css q p hn w h hf)
  clear h hf
  go_enter Tryz.func58, Tryz.ntmps58
  go_wp2_with fail
  refine HI.out.mono ?_
  rintro e W1 ⟨⟨r, rfl, hr⟩, hb⟩
  have HR := Lib.hid hr.any
  have HB := Lib.hid hb
  clear hr hb
  go_wp2_with fail
  go_ret
  exact ⟨by rw [← HR.out]; rfl, HB.out⟩

/-- The function that is handed on, where what it calls is known. -/
theorem rightc_any (cs : List Value) (hcs : cs.length = 6) (g : Nat) (d : Nat) (b : Bool) (hd : d ≤ 1000) (w : World) (hg : w.cell? ⟨g, 0, none⟩ = some (.int .i64 (d : Int)))
    (hrec : ∀ w1, Below w.heap.size w w1 → Calls Tryz.prog 28 #[.agg cs.toArray, .int .i64 ((d : Int) + 1)] w1 fun e w' => e = .returned (.bool b) ∧ Below w1.heap.size w1 w') :
    Calls Tryz.prog 59 #[.agg cs.toArray, .pointer (some ⟨g, 0, none⟩)] w fun e w' => e = .returned (.bool (!b)) ∧ Below w.heap.size w w' := by
  have hw := Below.alloc1 w (.cells cs.toArray 26)
  have hlt : g < w.heap.size := lt_of_cell hg
  have HG := Lib.hid ((hw.cell (p := ⟨g, 0, none⟩) hlt).trans hg)
  have HREC := Lib.hid (hrec _ hw)
  have HW := Lib.hid hw
  have HB0 := Lib.hid (Row.new w cs 26)
  have HI := Lib.hid (v_info hcs)
  have hg2 := HG.out
  clear hw hrec hg
  go_enter Tryz.func59, Tryz.ntmps59
  go_wp2_with (refine wpList_load_row rfl 26 (.tmp 2) rfl w.heap.size rfl 26 _ (0, 0) _ HB0.out Tryz.underlying26 rfl HI.out ?_)
  refine HREC.out.mono ?_
  rintro e W1 ⟨rfl, hb⟩
  have HB := Lib.hid hb
  clear hb
  go_wp2_with fail
  go_ret
  exact ⟨rfl, HW.out.trans (HB.out.mono HW.out.size)⟩
end

section
set_option maxRecDepth 100000
set_option linter.unusedSimpArgs false
set_option linter.unusedVariables false
open Go.RowKit

theorem wpList_load_guarded {P : Program} {ops : Array Oper} {rest : List Oper} {o : Oper} {a : Act} {w : World} {Q : Exit → Act → World → Prop} (hw : Region.wanted o (yielded ops a.tmps) = true) (ty : TypeId) (x : Operand) (ho : o.op = .load ty x)
    (g : Nat) (hx : a.eval x = .pointer (some ⟨g, 0, none⟩)) (T : TypeId) (l : List Value) (hr : Row w g T l) {d : TypeDesc}
    (hu : P.underlying ty = some d) (hd : (match d with | .struct _ | .array _ _ => true | _ => false) = true) (hi : (P.info? ty).map (·.size) = some l.toArray.size)
    (h : wpList P ops Q rest (a.put o.dst (.agg l.toArray)) w) : wpList P ops Q (o :: rest) a w :=
  BigFrame.wpList_want hw fun _ hK => wp_load_row ty x ho g hx T _ (0, 0) _ hr hu hd hi (hK _ _ h)
theorem not_any (f : Nat → Bool) (n : Nat) : (!(List.range n).any fun j => !f j) = (List.range n).all f := by
  rw [Bool.eq_iff_iff, Bool.not_eq_true', ← Bool.not_eq_true, List.any_eq_true, List.all_eq_true]
  constructor
  · intro h j hj
    cases hf : f j with
    | true => rfl
    | false => exact absurd ⟨j, hj, by simp [hf]⟩ h
  · rintro h ⟨j, hj, hf⟩
    rw [h j hj] at hf
    cases hf

set_option maxHeartbeats 1600000 in
theorem right_any : ∀ (v : Vt) (cs : List Value) (d : Nat) (w : World), VAt w v cs → d ≤ 900 →
    Calls Tryz.prog 28 #[.agg cs.toArray, .int .i64 (d : Int)] w fun e w' => e = .returned (.bool (v.rightAt d)) ∧ Below w.heap.size w w' := by
  intro v
  induction v with
  | nul => intro cs d w h; cases h
  | mk k n s names ids len parts ih =>
    intro cs d w h hd
    cases h with
    | mk css hk hn hs h1 h1c hss h2 h2c hi h3 h3c hp =>
    rename_i a b c la ca lb cb cc
    have hmk : (Vt.mk k n s names ids len parts).rightAt d = (decide (d ≤ 5) && (bareB k n s la lb len && fitB k n s names ids len) && (List.range len).all fun i => (parts i).rightAt (d + 1)) := by
      rw [Vt.rightAt_mk, head_eq, Strs.len h1, Nums.len h2]
    generalize (Vt.mk k n s names ids len parts).rightAt d = res at *
    have hlc : len ≤ 9223372036854775807 := by have := h3c.1; have := h3c.2; unfold maxLen at this; omega
    have hw := Below.alloc2 w (.cells [.int .i64 k, .int .i64 n, .string s, .slice a la ca, .slice b lb cb, .slice c len cc].toArray 26) (.cells #[.int .i64 (d : Int)] 3)
    have hb0 := (Row.new w [.int .i64 k, .int .i64 n, .string s, .slice a la ca, .slice b lb cb, .slice c len cc] 26).alloc (.cells #[.int .i64 (d : Int)] 3)
    have hb1 := Row.new1 w (.cells [.int .i64 k, .int .i64 n, .string s, .slice a la ca, .slice b lb cb, .slice c len cc].toArray 26) [.int .i64 (d : Int)] 3
    have HI := Lib.hid (v_info (cs := [.int .i64 k, .int .i64 n, .string s, .slice a la ca, .slice b lb cb, .slice c len cc]) rfl)
    by_cases h5 : d ≤ 5
    · have g5 : (d : Int) ≤ 5 := by omega
      rw [decide_eq_true h5, Bool.true_and] at hmk
      have HBA := Lib.hid (fun wx => bare_any k n s a b c la ca lb cb len cc wx)
      have HFI := Lib.hid (fun wx hx hy => fit_any k n s names ids a b c la ca lb cb len cc hs hss h1c h2c wx hx hy)
      have HCF := Lib.hid (fun wx hx q p hf => cf_right c len cc css q p hlc wx hx hf)
      have H1 := Lib.hid h1
      have H2 := Lib.hid h2
      have H3 := Lib.hid h3
      have HP := Lib.hid hp
      have IH := Lib.hid ih
      have HMK := Lib.hid hmk
      have HB0 := Lib.hid hb0
      have HB1 := Lib.hid hb1
      have HW := Lib.hid hw
      clear ih hp h1 h2 h3 hmk hb0 hb1 hw hs hss h1c h2c hi hk hn h3c
      generalize bareB k n s la lb len = bb at *
      generalize fitB k n s names ids len = bf at *
      cases bb
      · skip
        go_enter Tryz.func28, Tryz.ntmps28
        go_wp2_with (refine wpList_load_guarded (by rfl) 26 (.tmp 2) rfl w.heap.size rfl 26 _ HB0.out Tryz.underlying26 rfl HI.out ?_)
        refine (HBA.out _).mono ?_
        rintro e W1 ⟨rfl, hb⟩
        have HB := Lib.hid hb
        clear hb
        go_wp2_with fail
        go_ret
        exact ⟨by rw [HMK.out]; rfl, HW.out.trans (HB.out.mono HW.out.size)⟩
      · cases bf
        · skip
          go_enter Tryz.func28, Tryz.ntmps28
          go_wp2_with (refine wpList_load_guarded (by rfl) 26 (.tmp 2) rfl w.heap.size rfl 26 _ HB0.out Tryz.underlying26 rfl HI.out ?_)
          refine (HBA.out _).mono ?_
          rintro e W1 ⟨rfl, hb⟩
          have HW1 := Lib.hid (HW.out.trans (hb.mono HW.out.size))
          have HB01 := Lib.hid (HB0.out.belowAll hb)
          clear hb
          go_wp2_with (refine wpList_load_guarded (by rfl) 26 (.tmp 2) rfl w.heap.size rfl 26 _ HB01.out Tryz.underlying26 rfl HI.out ?_)
          refine (HFI.out _ (H1.out.belowAll HW1.out) (H2.out.belowAll HW1.out)).mono ?_
          rintro e W2 ⟨rfl, hb⟩
          have HW2 := Lib.hid (HW1.out.trans (hb.mono HW1.out.size))
          clear hb
          go_wp2_with fail
          go_ret
          exact ⟨by rw [HMK.out]; rfl, HW2.out⟩
        · skip
          go_enter Tryz.func28, Tryz.ntmps28
          go_wp2_with (refine wpList_load_guarded (by rfl) 26 (.tmp 2) rfl w.heap.size rfl 26 _ HB0.out Tryz.underlying26 rfl HI.out ?_)
          refine (HBA.out _).mono ?_
          rintro e W1 ⟨rfl, hb⟩
          have HW1 := Lib.hid (HW.out.trans (hb.mono HW.out.size))
          have HB01 := Lib.hid (HB0.out.belowAll hb)
          have HB11 := Lib.hid (HB1.out.belowAll hb)
          clear hb
          go_wp2_with (refine wpList_load_guarded (by rfl) 26 (.tmp 2) rfl w.heap.size rfl 26 _ HB01.out Tryz.underlying26 rfl HI.out ?_)
          refine (HFI.out _ (H1.out.belowAll HW1.out) (H2.out.belowAll HW1.out)).mono ?_
          rintro e W2 ⟨rfl, hb⟩
          have HW2 := Lib.hid (HW1.out.trans (hb.mono HW1.out.size))
          have hb02 := HB01.out.belowAll hb
          have hb12 := HB11.out.belowAll hb
          have hc5 := hb02.cell (k := 5) (v := .slice c len cc) rfl
          have hc1 := hb12.cell (k := 0) (v := .int .i64 (d : Int)) rfl
          have hcf := HCF.out W2 (H3.out.below HW2.out) (.pointer (some ⟨w.heap.size + 1, 0, none⟩)) (fun j => !(parts j).rightAt (d + 1)) (fun j hj w' hbw =>
            rightc_any (css j) (HP.out j hj).length (w.heap.size + 1) d _ (by omega) w' ((hbw.cell (p := ⟨w.heap.size + 1, 0, none⟩) (lt_of_cell hc1)).trans hc1) (fun w1 hb1 =>
              IH.out j (css j) (d + 1) w1 ((HP.out j hj).later (HW2.out.trans ((hbw.trans (hb1.mono hbw.size)).mono HW2.out.size))) (by omega)))
          rw [show (List.range len).any (fun j => !(parts j).rightAt (d + 1)) = !(List.range len).all fun i => (parts i).rightAt (d + 1) by rw [← not_any, Bool.not_not]] at hcf
          have HCF2 := Lib.hid hcf
          clear hb hcf hb02 hb12
          generalize ((List.range len).all fun i => (parts i).rightAt (d + 1)) = ba at *
          go_wp2_with fail
          refine HCF2.out.mono ?_
          rintro e W3 ⟨rfl, hb⟩
          have HB := Lib.hid hb
          clear hb
          cases ba
          · go_wp2_with fail
            go_ret
            exact ⟨by rw [HMK.out]; rfl, HW2.out.trans (HB.out.mono HW2.out.size)⟩
          · go_wp2_with fail
            go_ret
            exact ⟨by rw [HMK.out]; rfl, HW2.out.trans (HB.out.mono HW2.out.size)⟩
    · have g5 : ¬ (d : Int) ≤ 5 := by omega
      rw [decide_eq_false h5] at hmk
      have HMK := Lib.hid hmk
      have HW := Lib.hid hw
      clear ih hp h1 h2 h3 hmk hb0 hb1 hw
      go_enter Tryz.func28, Tryz.ntmps28
      go_wp2_with fail
      go_ret
      exact ⟨by rw [HMK.out]; rfl, HW.out⟩
theorem vright_any (v : Vt) (cs : List Value) (w : World) (h : VAt w v cs) :
    Calls Tryz.prog 15 #[.agg cs.toArray] w fun e w' => e = .returned (.bool (v.rightAt 1)) ∧ Below w.heap.size w w' := by
  have hw := Below.alloc1 w (.cells cs.toArray 26)
  have HR := Lib.hid (right_any v cs 1 _ (h.later hw) (by decide))
  have HW := Lib.hid hw
  have HB0 := Lib.hid (Row.new w cs 26)
  have HI := Lib.hid (v_info h.length)
  clear hw h
  go_enter Tryz.func15, Tryz.ntmps15
  go_wp2_with (refine wpList_load_row rfl 26 (.tmp 1) rfl w.heap.size rfl 26 _ (0, 0) _ HB0.out Tryz.underlying26 rfl HI.out ?_)
  refine HR.out.mono ?_
  rintro e W1 ⟨rfl, hb⟩
  have HB := Lib.hid hb
  clear hb
  go_wp2_with fail
  go_ret
  exact ⟨rfl, HW.out.trans (HB.out.mono HW.out.size)⟩
end

section
set_option maxRecDepth 100000
set_option linter.unusedSimpArgs false
set_option linter.unusedVariables false
open Go.RowKit

/-- A writer of the call's own. -/
structure WP (W w : World) (a : Addr) (v : Value) (k : List UInt8) : Prop where
  wr : Wr w a v k
  be : Below W.heap.size W w
  own : ∀ j, v.ownBlock = some j → W.heap.size ≤ j
theorem WP.wrote {W w w' : World} {a : Addr} {v v' : Value} {k l : List UInt8} (h : WP W w a v k) (ha : W.heap.size ≤ a.block) (hw : Wrote w w' a v v' l) : WP W w' a v' l :=
  have h2 := below_wrote hw h.be ha h.own
  ⟨hw.wr, h2.1, h2.2⟩
theorem WP.later {W w w' : World} {a : Addr} {v : Value} {k : List UInt8} (h : WP W w a v k) (hb : Below w.heap.size w w') : WP W w' a v k :=
  ⟨h.wr.below hb, h.be.trans (hb.mono h.be.size), h.own⟩
theorem wrote_from {w w' : World} {a : Addr} {v v' : Value} {l : List UInt8} {o : Obj} (h : Wrote (w.alloc o) w' a v v' l) : Wrote w w' a v v' l :=
  ⟨h.wr, (Only.of_below (below_new w o) _).trans h.only fun _ _ h => h, h.near.imp id fun ⟨g, h1, h2⟩ => ⟨g, h1, by simp at h2; omega⟩⟩

set_option maxHeartbeats 1600000 in
theorem fwrite_any (W : World) (a : Addr) (sA pA : Option Addr) (n cA cB : Nat) (words : List ByteArray) (css : Nat → List Value) (parts : Nat → Vt) (B : Nat) (w : World) (v : Value) (k0 : List UInt8)
    (hs : Strs W sA n words) (hss : ∀ i, i < n → (nth words i).size ≤ 64) (hn8 : n ≤ 8) (hp : Parts W 6 pA n css)
    (HW : ∀ i, i < n → ∀ (w' : World) (v' : Value) (k : List UInt8), WP W w' a v' k → k.length + B + 100 ≤ 140737488355328 → Calls Tryz.prog 16 #[.pointer (some a), .agg (css i).toArray] w' fun e w'' => e = .returned (.tuple #[]) ∧ ∃ v'', Wrote w' w'' a v' v'' (k ++ (parts i).bytes))
    (HL : ∀ i, i < n → (parts i).bytes.length ≤ B) (ha : W.heap.size ≤ a.block) (hw : WP W w a v k0) (hlen : k0.length + 10 + 8 * (74 + B) + 100 ≤ 140737488355328) :
    Calls Tryz.prog 33 #[.pointer (some a), .slice sA n cA, .slice pA n cB, .func (.func 16) #[] #[]] w fun e w' => e = .returned (.tuple #[]) ∧ ∃ v', Wrote w w' a v v' (k0 ++ (enc n ++ (List.range n).flatMap fun i => wB (nth words i) ++ (parts i).bytes)) := by
  have HS := Lib.hid hs
  have HSS := Lib.hid hss
  have HP := Lib.hid hp
  have HWW := Lib.hid HW
  have HLL := Lib.hid HL
  have HA := Lib.hid ha
  have HW0 := Lib.hid hw
  have hen := enc_length_le (n := n) (by omega)
  have hn8i : (n : Int) ≤ 8 := by omega
  clear hs hss hp HW HL ha hw
  go_enter Tryz.func33, Tryz.ntmps33
  go_wp2_with fail
  refine (number_any a v k0 n w HW0.out.wr (by omega) (by omega)).mono ?_
  rintro e W1 ⟨rfl, v1, hw1⟩
  have HX1 := Lib.hid hw1
  clear hw1
  go_wp2_with fail
  go_loopw [8, 9, 17] (fun _ _ i wr => ∃ (j : Nat) (v' : Value), j ≤ n ∧ i = .int .i64 (j : Int) ∧ Wrote w wr a v v' (k0 ++ enc n ++ (List.range j).flatMap fun i => wB (nth words i) ++ (parts i).bytes)) (fun _ _ i _ => n - (intOf i).toNat)
  case atStart => exact ⟨0, v1, Nat.zero_le _, rfl, by simpa using HX1.out⟩
  case round =>
    obtain ⟨j, v2, hjn, rfl, hwr⟩ := hrel
    have hwp := HW0.out.wrote HA.out hwr
    have bj0 : (0 : Int) ≤ (j : Int) := by omega
    by_cases hj : j < n
    · have hji : (j : Int) < (n : Int) := by omega
      obtain ⟨ad, rfl, hc0⟩ := Strs.at_ (HS.out.belowAll hwp.be) hj
      have hfl := flat_blen (f := fun i => wB (nth words i) ++ (parts i).bytes) (b := 74 + B) (n := j) (fun i hi => by
        rw [List.length_append]
        have h3 := wB_len (HSS.out i (by omega))
        have h4 := HLL.out i (by omega)
        omega)
      have hj8 : j * (74 + B) ≤ 7 * (74 + B) := Nat.mul_le_mul_right _ (by omega)
      have hsz := HSS.out j hj
      have HMO := Lib.hid (flat_bmore (fun i => wB (nth words i) ++ (parts i).bytes) j)
      have hkl : (k0 ++ enc n ++ (List.range j).flatMap fun i => wB (nth words i) ++ (parts i).bytes).length + B + 74 + 100 ≤ 140737488355328 := by
        simp only [List.length_append] at hfl ⊢
        omega
      generalize hkj : (k0 ++ enc n ++ (List.range j).flatMap fun i => wB (nth words i) ++ (parts i).bytes) = kj at *
      have HKJ := Lib.hid hkj
      have HWP := Lib.hid hwp
      have HWR := Lib.hid hwr
      have hwl := wB_len hsz
      obtain ⟨x, hx⟩ : ∃ x, nth words j = x := ⟨_, rfl⟩
      have HX := Lib.hid hx
      rw [hx] at hc0 hsz hwl
      clear hfl hj8 hwp hwr hkj hx
      go_wp2_with fail
      refine (puttext_any a v2 kj x wr HWP.out.wr (by omega)).mono ?_
      rintro e W2 ⟨rfl, v3, hw3⟩
      have hwp3 := HWP.out.wrote HA.out hw3
      have HW3 := Lib.hid (HWR.out.trans hw3)
      obtain ⟨pd, rfl, hpb, hcell⟩ := (HP.out.below hwp3.be) (by omega)
      obtain ⟨hl3, hcc⟩ := hcell j hj
      have HCC := Lib.hid hcc
      have HL3 := Lib.hid (v_len hl3)
      have HCALL := Lib.hid (HWW.out j hj W2 v3 (kj ++ (enc x.size ++ x.data.toList)) hwp3 (by rw [List.length_append]; unfold wB at hwl; omega))
      clear hw3 hwp3 hcell hcc hl3 hpb
      go_wp2_with (refine wpList_load_at rfl 26 (.tmp 29) rfl (pd.add (j * 6)) rfl (css j) _ (fun q u hu => by rw [add_add]; exact HCC.out q u hu) Tryz.underlying26 rfl HL3.out ?_)
      refine HCALL.out.mono ?_
      rintro e W3 ⟨rfl, v4, hwp4⟩
      have HW4 := Lib.hid (HW3.out.trans hwp4)
      clear hwp4
      go_wp2_with fail
      go_roundw
      case rel =>
        refine ⟨j + 1, v4, by omega, by go_num, ?_⟩
        rw [HMO.out, HX.out, ← List.append_assoc, HKJ.out]
        have h := HW4.out
        unfold wB
        rw [← List.append_assoc]
        exact h
      case measure => simp [intOf] <;> omega
    · obtain rfl : j = n := by omega
      have HWP := Lib.hid hwr
      clear hwp hwr
      go_wp2_with fail
      go_end0
      exact ⟨rfl, v2, by have := HWP.out; rwa [List.append_assoc] at this⟩
end

end Go.Proofs.YtkjhmplnamaoaaaGreatDoor
