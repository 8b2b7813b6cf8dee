/- What reading bytes comes to, whatever the reader's bytes are. -/
import Derived.Test.YtpegkalhjnldkaaReadB
import Derived.StillTailTactics
namespace Go.Proofs.Ytpegkalhjnldkaa
set_option maxRecDepth 100000
open Go.RowKit

/-- A cut of a slice. -/
theorem Rd.cut {w : World} {F : Nat → Prop} {A : Option Addr} {n c lo hi : Nat} {k : List UInt8} (h : Rd w F A n (Bs k)) (h1 : lo ≤ hi) (h2 : hi ≤ n) (h3 : n ≤ c) :
    (c = lo ∧ Rd w F A (hi - lo) (Bs ((k.drop lo).take (hi - lo)))) ∨ (¬ c = lo ∧ Rd w F (Option.map (fun x => x.add lo) A) (hi - lo) (Bs ((k.drop lo).take (hi - lo)))) := by
  have hk := h.len
  by_cases hc : c = lo
  · refine .inl ⟨hc, ?_⟩
    have e : hi - lo = 0 := by omega
    rw [e]
    exact Rd.nil _ _ _
  · refine .inr ⟨hc, by simp [Bs]; omega, fun hn => ?_⟩
    obtain ⟨ad, rfl, hF, hb, hcell⟩ := h.2 (by omega)
    refine ⟨ad.add lo, rfl, by rw [add_block]; exact hF, by rw [add_block]; exact hb, fun j u hu => ?_⟩
    rw [add_add]
    refine hcell _ u ?_
    rw [← hu, Bs_get, Bs_get, List.getElem?_take, if_pos, List.getElem?_drop]
    have := (List.getElem?_eq_some_iff.1 hu).1
    simp [Bs] at this
    omega

/-- What reading bytes leaves: a row of its own, and how many were taken. -/
def Got (w : World) (x : List UInt8) (t : Nat) (e : Ending) (w' : World) : Prop :=
  ∃ A c, e = .returned (.tuple #[.slice A x.length c, .int .i64 t, .int .i64 0]) ∧ w'.ownsRow w.heap.size 5 1 (.slice A x.length c) x.length (Bs x) ∧ Below w.heap.size w w'
theorem got {w w' : World} {x : List UInt8} {t : Nat} {A : Option Addr} {n c : Nat} {y : Int} (hn : n = x.length) (hy : y = t) (ho : w'.ownsRow w.heap.size 5 1 (.slice A n c) x.length (Bs x)) (hb : Below w.heap.size w w') :
    Got w x t (.returned (.tuple #[.slice A n c, .int .i64 y, .int .i64 0])) w' := by
  subst hn hy
  exact ⟨A, c, rfl, ho, hb⟩

end Go.Proofs.Ytpegkalhjnldkaa
