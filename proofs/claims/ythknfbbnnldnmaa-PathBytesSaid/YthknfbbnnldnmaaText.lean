/- Texts and bytes turned into each other, and the writer's Text; for any bytes. -/
import Derived.Test.YthknfbbnnldnmaaWrite
namespace Go.Proofs.Ythknfbbnnldnmaa
set_option maxRecDepth 100000
open Go.RowKit

/-- string(b). -/
theorem to_text (A : Option Addr) (n c : Nat) (k : List UInt8) (F : Nat → Prop) (w : World) (hr : Rd w F A n (Bs k)) :
    (convert 25 9 (.slice A n c)).run Try.prog w = .ok (.string ⟨k.toArray⟩) w := by
  obtain rfl : n = k.length := hr.len.symm
  by_cases hk : 0 < k.length
  · obtain ⟨ad, rfl, _, _, hc⟩ := hr.2 hk
    refine run_convert_bytes_back w _ _ _ ad c k Try.underlying25 Try.underlying5 Try.underlying9 fun j hj => ?_
    exact hc j _ (by rw [Bs_get, List.getElem?_eq_getElem hj]; rfl)
  · obtain rfl : k = [] := List.eq_nil_of_length_eq_zero (by omega)
    cases A with
    | none => exact run_convert_bytes_nil w _ _ Try.underlying25 Try.underlying5 _ _ _ Try.underlying9
    | some ad => exact run_convert_bytes_back w _ _ _ ad c [] Try.underlying25 Try.underlying5 Try.underlying9 (fun j hj => absurd hj (by simp))

/-- What the bytes of a text are, as a new row (it bears a mark behind its end). -/
theorem of_text (s : ByteArray) (w : World) : ∃ c w', (convert 9 25 (.string s)).run Try.prog w = .ok (.slice (some ⟨w.heap.size, 0, none⟩) s.size c) w' ∧
    Rd w' (fun j => j = w.heap.size) (some ⟨w.heap.size, 0, none⟩) s.size (Bs s.data.toList) ∧ Below w.heap.size w w' ∧ s.size ≤ c := by
  refine ⟨_, _, run_bytes_of_string w _ _ _ s Try.underlying9 Try.underlying25 Try.underlying5, ⟨by simp [Bs], fun hn => ⟨_, rfl, rfl, ?_, fun j u hu => ?_⟩⟩, ?_, grownCap_ge _ _ _ _⟩
  · simp
  · have hj : j < s.data.size := by
      have := (List.getElem?_eq_some_iff.1 hu).1
      simpa [Bs] using this
    have e : (⟨w.heap.size, 0, none⟩ : Addr).add j = ⟨w.heap.size, j, none⟩ := by unfold Addr.add; split <;> simp_all
    have h1 : w.drew.heap.size = w.heap.size := rfl
    rw [e, ← h1, World.cell?_alloc_mark, bytesRow_at s _ j hj, ← hu, Bs_get]
    rw [Array.getElem?_toList, Array.getElem?_eq_getElem hj]
    rfl
  · exact ((Below.refl _ _).drew).alloc (Nat.le_refl _) _

end Go.Proofs.Ythknfbbnnldnmaa
