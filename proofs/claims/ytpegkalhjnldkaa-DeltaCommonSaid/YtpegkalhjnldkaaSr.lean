/- A path's bytes read again: Count, Word, Number of what fits; a step; the path; for any right path's bytes. -/
import Derived.Test.YtpegkalhjnldkaaSw
import Derived.Test.YtpegkalhjnldkaaReadM
namespace Go.Proofs.Ytpegkalhjnldkaa
set_option maxRecDepth 100000
set_option linter.unusedSimpArgs false
set_option linter.unusedVariables false
open Go.RowKit

theorem rnum_at {k R : List UInt8} {p n most : Nat} (h : k.drop p = enc n ++ R) (hn : n < 18446744073709551616) (hm : n ≤ most) : rnum k p most = (n, p + (enc n).length, 0) := by
  unfold rnum
  rw [h, dec_enc hn]
  simp only
  rw [if_neg (by omega)]
theorem rbytes_at {k b R : List UInt8} {p : Nat} {most : Int} (h : k.drop p = enc b.length ++ (b ++ R)) (hm : (b.length : Int) ≤ most) (hb : b.length < 18446744073709551616) : rbytes k p most = (b, p + ((enc b.length).length + b.length), 0) := by
  unfold rbytes
  rw [h, dec_enc hb]
  simp only
  rw [if_neg (by omega), if_neg (by simp only [List.length_append]; omega), List.drop_left, List.take_left]
theorem bytes_text (s : ByteArray) : (⟨s.data.toList.toArray⟩ : ByteArray) = s := by
  obtain ⟨d⟩ := s
  simp
theorem drop_more {k b R : List UInt8} {p : Nat} (h : k.drop p = b ++ R) : k.drop (p + b.length) = R := by
  rw [← List.drop_drop, h, List.drop_left]

section
variable (g : Nat) (A : Option Addr) (c : Nat) (F : Nat → Prop) (k : List UInt8) (p : Nat)
theorem stp_info : (Try.prog.info? 69).map (·.size) = some 2 := by kernel_rfl
/-- A new block of the call's own is filled: the reader stands as it did. -/
theorem only_setRow (w : World) (b : Nat) (cs : Array Value) : Only (fun j => j = b) w (w.setRow b cs) :=
  ⟨rfl, rfl, rfl, by simp [World.setRow], fun k _ hn => setRow_other w b k cs (fun e => hn e)⟩
theorem st_one (s : ByteArray) (i : Int) : (#[Value.string s, Value.int .u64 i].all fun x => x.oneCell') = true := by simp [Value.oneCell']
theorem stB_cases {x : Stp} (h : stB x = true) : (x.s.size ≠ 0 ∧ nameB x.s = true ∧ x.id = 0) ∨ (x.s = ByteArray.empty ∧ x.id ≠ 0) := by
  unfold stB at h
  rw [Bool.or_eq_true, Bool.and_eq_true, Bool.and_eq_true] at h
  rcases h with ⟨h1, h2⟩ | ⟨h1, h2⟩
  · exact .inl ⟨(name_size h1).1, h1, eq_of_beq h2⟩
  · exact .inr ⟨empty_of (of_decide_eq_true h1), bne_iff_ne.1 h2⟩

end

def stc (l : List Stp) : List Value := l.flatMap fun x => [.string x.s, .int .u64 x.id]
theorem stc_more {l : List Stp} {j : Nat} (hj : j < l.length) : stc (l.take (j + 1)) = stc (l.take j) ++ [.string (stp l j).s, .int .u64 (stp l j).id] := by
  unfold stc
  rw [List.take_add_one, stp_get hj, List.flatMap_append]
  simp
theorem stc_get : ∀ (l : List Stp) (i : Nat) (x : Stp), l[i]? = some x → (stc l)[i * 2]? = some (.string x.s) ∧ (stc l)[i * 2 + 1]? = some (.int .u64 x.id)
  | [], i, x, h => by simp at h
  | y :: l, 0, x, h => by
    simp at h
    subst h
    exact ⟨rfl, rfl⟩
  | y :: l, i + 1, x, h => by
    have ih := stc_get l i x (by simpa using h)
    have e1 : (i + 1) * 2 = i * 2 + 2 := by omega
    rw [e1]
    exact ih
theorem stc_length (l : List Stp) : (stc l).length = l.length * 2 := by
  induction l with
  | nil => rfl
  | cons x l ih => show (stc l).length + 2 = _; rw [ih, List.length_cons]; omega
theorem pB_split {l : List Stp} {j : Nat} (hj : j < l.length) : pBytes l = pB l j ++ (stBytes (stp l j) ++ (l.drop (j + 1)).flatMap stBytes) := by
  unfold pBytes pB
  rw [List.take_length, List.append_assoc]
  congr 1
  rw [← List.flatMap_cons, ← List.flatMap_append]
  congr 1
  conv => lhs; rw [← List.take_append_drop j l]
  congr 1
  rw [List.drop_eq_getElem_cons hj]
  congr 1
  unfold stp
  rw [List.getD, List.getElem?_eq_getElem hj]
  rfl
theorem sts_own {w : World} {b : Nat} {A : Option Addr} {c : Nat} {l : List Stp} (h : w.ownsRow b 69 2 (.slice A l.length c) l.length (stc l)) : Sts w A l.length l := by
  refine ⟨rfl, fun hn => ?_⟩
  rcases h.2 with ⟨hv, h0⟩ | ⟨g, cap, cur, hv, _, hg, hnc, _, hs, ht⟩
  · omega
  · injection hv with h1 h2 h3
    refine ⟨⟨g, 0, none⟩, h1, (Array.getElem?_eq_some_iff.1 hg).1, fun i x hx => ?_⟩
    obtain ⟨e0, e1⟩ := stc_get l i x hx
    have hi := (List.getElem?_eq_some_iff.1 hx).1
    have ea : ∀ j, (⟨g, 0, none⟩ : Addr).add j = ⟨g, j, none⟩ := fun j => by unfold Addr.add; split <;> simp_all
    have hc : ∀ j u, (stc l)[j]? = some u → w.cell? ⟨g, j, none⟩ = some u := fun j u hu => by
      rw [cell_of_row w g j _ _ _ hg, ← Array.getElem?_toList]
      rw [← ht, List.getElem?_take] at hu
      split at hu
      · exact hu
      · cases hu
    rw [add_add, ea, ea]
    exact ⟨hc _ _ e0, hc _ _ e1⟩
theorem only_grown {w w' : World} {row : Option Nat} (h : w.grownBy w' row) : Only (fun j => row = some j) w w' :=
  ⟨h.os, h.tape, h.output, h.size, fun k hk hn => h.block k hk (fun e => hn e.symm)⟩
theorem st_info3 : (Try.prog.info? 69).map (fun i => (i.zero, i.size, i.bytes)) = some (some (.agg #[.string ByteArray.empty, .int .u64 0]), 2, 24) := by kernel_rfl

end Go.Proofs.Ytpegkalhjnldkaa
