/- The writer's Text; for any text. -/
import Derived.Test.YthknfbbnnldnmaaText
import Derived.Test.YthknfbbnnldnmaaWriteB
namespace Go.Proofs.Ythknfbbnnldnmaa
open Go.RowKit

set_option maxHeartbeats 400000 in
theorem puttext_any (a : Addr) (v : Value) (l : List UInt8) (s : ByteArray) (w : World) (hw : Wr w a v l) (hlen : l.length + s.size + 10 ≤ 140737488355328) :
    Calls Try.prog 21 #[.pointer (some a), .string s] w fun e w' => e = .returned (.tuple #[]) ∧ ∃ v', Wrote w w' a v v' (l ++ (enc s.size ++ s.data.toList)) := by
  obtain ⟨c, w1, hrun, hrd, hbel, _⟩ := of_text s w
  have HW := Lib.hid hw
  clear hw
  have HR := Lib.hid hrd
  have HB := Lib.hid hbel
  clear hrd hbel
  go_enter Try.func21, Try.ntmps21
  go_wp2_with fail
  have hsz : s.data.toList.length = s.size := by simp
  refine (putbytes_any a v l _ _ c s.data.toList _ _ (HW.out.below HB.out) HR.out (fun j hj => ?_) hlen).mono ?_
  · subst hj
    have h1 := HW.out.lt
    exact ⟨by omega, fun e => by have := HW.out.rowlt _ e; omega⟩
  rintro e w2 ⟨rfl, v2, hw2⟩
  go_wp2_with fail
  go_end0
  refine ⟨rfl, v2, ?_⟩
  rw [← hsz]
  exact hw2.after HB.out

end Go.Proofs.Ythknfbbnnldnmaa
