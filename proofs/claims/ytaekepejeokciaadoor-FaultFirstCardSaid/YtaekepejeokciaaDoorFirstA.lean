/- The first of some errors, and whether it has one of some numbers: for any numbers of errors and any numbers asked for; no condition but that they can be read. -/
import Derived.Test.YtaekepejeokciaaDoorIsB
namespace Go.Proofs.YtaekepejeokciaaDoor
set_option maxRecDepth 100000
open Go.RowKit

theorem err_info : (Tryd.prog.info? 24).map (fun i => (i.zero, i.size, i.bytes)) = some (some .nilIface, 1, 16) := by kernel_rfl
theorem errno_info : (Tryd.prog.info? 29).map (fun i => (i.zero, i.size, i.bytes)) = some (some (.int .i64 0), 1, 8) := by kernel_rfl

/-- The number of an error that is made of a byte. -/
def cd (c : UInt8) : Int := ((c.toNat % 16 : Nat) : Int)
/-- The number of the first error that there is. -/
def wantOf : List UInt8 → Int
  | [] => 0
  | c :: r => if cd c = 0 then wantOf r else cd c
theorem wantOf_append : ∀ (l m : List UInt8), wantOf (l ++ m) = if wantOf l = 0 then wantOf m else wantOf l
  | [], _ => by simp [wantOf]
  | c :: r, m => by
    by_cases h : cd c = 0
    · simp only [List.cons_append, wantOf, if_pos h]; exact wantOf_append r m
    · simp only [List.cons_append, wantOf, if_neg h]
theorem wantOf_snoc {l : List UInt8} {k : Nat} {c : UInt8} (h : l[k]? = some c) : wantOf (l.take (k + 1)) = if wantOf (l.take k) = 0 then cd c else wantOf (l.take k) := by
  rw [List.take_add_one, h, wantOf_append]
  have h1 : wantOf (some c).toList = cd c := by
    show (if cd c = 0 then (0 : Int) else cd c) = cd c
    split <;> simp_all
  rw [h1]

/-- Errors of these numbers. -/
def Ers (w : World) (cs : List UInt8) (xs : List Value) : Prop :=
  xs.length = cs.length ∧ ∀ (j : Nat) (x : Value) (c : UInt8), xs[j]? = some x → cs[j]? = some c → ∃ ps, ps.length ≤ 40 ∧ Er w ps (cd c) x
theorem Er.iface_or {w : World} {ps : List Int} {n : Int} {x : Value} (h : Er w ps n x) : (x = .nilIface ∧ n = 0) ∨ ((∃ T y, x = .iface T y) ∧ n ≠ 0) := by
  rcases h with ⟨h0, _, rfl⟩ | ⟨h0, h⟩
  · exact .inl ⟨rfl, h0⟩
  · exact .inr ⟨h.iface, h0⟩
theorem Ers.fst {w : World} : ∀ {cs : List UInt8} {xs : List Value}, Ers w cs xs → ∃ ps, ps.length ≤ 40 ∧ Er w ps (wantOf cs) (fst xs)
  | [], xs, h => by
    obtain rfl : xs = [] := List.eq_nil_of_length_eq_zero h.1
    exact ⟨[], by simp, .inl ⟨rfl, rfl, rfl⟩⟩
  | c :: r, [], h => by have := h.1; simp at this
  | c :: r, x :: s, h => by
    obtain ⟨ps, hp, he⟩ := h.2 0 x c rfl rfl
    rcases he.iface_or with ⟨rfl, h0⟩ | ⟨⟨T, y, rfl⟩, h0⟩
    · rw [wantOf, if_pos h0]
      exact Ers.fst (cs := r) (xs := s) ⟨by have := h.1; simpa using this, fun j x c hx hc => h.2 (j + 1) x c (by simpa using hx) (by simpa using hc)⟩
    · rw [wantOf, if_neg h0]
      exact ⟨ps, hp, he⟩
theorem Ers.below {w w' : World} {cs : List UInt8} {xs : List Value} (h : Ers w cs xs) (hb : Below w.heap.size w w') : Ers w' cs xs :=
  ⟨h.1, fun j x c hx hc => by obtain ⟨ps, hp, he⟩ := h.2 j x c hx hc; exact ⟨ps, hp, he.below hb⟩⟩
theorem Ers.forms {w : World} {cs : List UInt8} {xs : List Value} (h : Ers w cs xs) : ∀ u ∈ xs, u = .nilIface ∨ ∃ T x, u = .iface T x := by
  intro u hu
  obtain ⟨j, hj⟩ := List.getElem?_of_mem hu
  have hl : j < cs.length := by rw [← h.1]; exact (List.getElem?_eq_some_iff.1 hj).1
  obtain ⟨ps, _, he⟩ := h.2 j u cs[j] hj (List.getElem?_eq_getElem hl)
  exact he.form

theorem Ch.but {w w' : World} {b : Option Nat} (hb : ∀ k, b = some k → ∀ cs fr, w.heap[k]? ≠ some (.cells cs 42 fr)) (hk : ∀ k, k < w.heap.size → some k ≠ b → w'.heap[k]? = w.heap[k]?) : ∀ {ps : List Int} {c : Int} {lim : Nat} {v : Value}, Ch w ps c lim v → Ch w' ps c lim v
  | [], _, _, _, h => h
  | p :: ps, c, lim, v, h => by
    obtain ⟨g, v', rfl, hl, hg, hr⟩ := h
    exact ⟨g, v', rfl, hl, (hk g (Array.getElem?_eq_some_iff.1 hg).1 (fun e => hb g e.symm _ _ hg)).trans hg, Ch.but hb hk hr⟩
theorem own_kind {w : World} {base : Nat} {e : TypeId} {v : Value} {n : Nat} {xs : List Value} (h : w.ownsRow base e 1 v n xs) (he : e ≠ 42) : ∀ k, v.ownBlock = some k → ∀ cs fr, w.heap[k]? ≠ some (.cells cs 42 fr) := by
  intro k hk cs fr hc
  rcases h.2 with ⟨rfl, _⟩ | ⟨g, cap, cur, rfl, _, hg, _⟩
  · cases hk
  · injection hk with hk
    subst hk
    have := hg.symm.trans hc
    injection this with this
    injection this with _ h2 _
    exact he h2
theorem Er.grown {w w' : World} {base : Nat} {e : TypeId} {v : Value} {m : Nat} {ys : List Value} {ps : List Int} {n : Int} {x : Value} (h : Er w ps n x) (ho : w.ownsRow base e 1 v m ys) (he : e ≠ 42) (hg : w.grownBy w' v.ownBlock) : Er w' ps n x :=
  h.imp id fun ⟨h1, h2⟩ => ⟨h1, (Ch.but (own_kind ho he) hg.block h2).more hg.size⟩
theorem Ers.grown {w w' : World} {base : Nat} {e : TypeId} {v : Value} {m : Nat} {ys : List Value} {cs : List UInt8} {xs : List Value} (h : Ers w cs xs) (ho : w.ownsRow base e 1 v m ys) (he : e ≠ 42) (hg : w.grownBy w' v.ownBlock) : Ers w' cs xs :=
  ⟨h.1, fun j x c hx hc => by obtain ⟨ps, hp, her⟩ := h.2 j x c hx hc; exact ⟨ps, hp, her.grown ho he hg⟩⟩
theorem Ers.snoc {w : World} {cs : List UInt8} {k : Nat} {c : UInt8} {xs : List Value} {x : Value} {ps : List Int} (h : Ers w (cs.take k) xs) (hc : cs[k]? = some c) (hx : Er w ps (cd c) x) (hp : ps.length ≤ 40) : Ers w (cs.take (k + 1)) (xs ++ [x]) := by
  have hkl : k < cs.length := (List.getElem?_eq_some_iff.1 hc).1
  have hl : xs.length = k := by rw [h.1, List.length_take]; omega
  refine ⟨by rw [List.length_append, hl, List.length_take]; simp <;> omega, fun j y d hy hd => ?_⟩
  by_cases hj : j < k
  · refine h.2 j y d ?_ ?_
    · rwa [List.getElem?_append_left (by omega)] at hy
    · rw [List.getElem?_take, if_pos hj]
      rwa [List.getElem?_take, if_pos (by omega)] at hd
  · have hj2 : j = k := by
      have := (List.getElem?_eq_some_iff.1 hd).1
      rw [List.length_take] at this
      omega
    subst hj2
    rw [List.getElem?_append_right (by omega), hl, Nat.sub_self] at hy
    rw [List.getElem?_take, if_pos (by omega), hc] at hd
    obtain rfl : x = y := by simpa using hy
    obtain rfl : c = d := by simpa using hd
    exact ⟨ps, hp, hx⟩

end Go.Proofs.YtaekepejeokciaaDoor
