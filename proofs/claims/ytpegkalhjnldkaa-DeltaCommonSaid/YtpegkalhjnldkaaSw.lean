/- A path's bytes: as the program writes them, as the document says them; for any right path. -/
import Derived.Test.YtpegkalhjnldkaaSg
import Derived.Test.YtpegkalhjnldkaaTextW
import Derived.Test.YtpegkalhjnldkaaRef
namespace Go.Proofs.Ytpegkalhjnldkaa
set_option maxRecDepth 100000
set_option linter.unusedSimpArgs false
set_option linter.unusedVariables false
open Go.RowKit

def stBytes (x : Stp) : List UInt8 := (enc x.s.size ++ x.s.data.toList) ++ (if x.s.size = 0 then enc x.id.toNat else [])
/-- The bytes of how many steps there are, and of the first ones. -/
def pB (l : List Stp) (j : Nat) : List UInt8 := enc l.length ++ (l.take j).flatMap stBytes
def pBytes (l : List Stp) : List UInt8 := pB l l.length
theorem pB_zero (l : List Stp) : pB l 0 = enc l.length := by simp [pB]
theorem pB_more {l : List Stp} {j : Nat} (hj : j < l.length) : pB l (j + 1) = pB l j ++ stBytes (stp l j) := by
  unfold pB
  rw [List.take_add_one, stp_get hj, List.flatMap_append, List.append_assoc]
  simp
theorem stBytes_named {x : Stp} (h : x.s.size ≠ 0) : stBytes x = enc x.s.size ++ x.s.data.toList := by unfold stBytes; rw [if_neg h, List.append_nil]
theorem enc_empty : enc ByteArray.empty.size ++ ByteArray.empty.data.toList = [0] := by
  have h : enc ByteArray.empty.size = [0] := by rw [show ByteArray.empty.size = 0 from rfl, enc_small (by omega)]; rfl
  rw [h]; rfl
theorem stBytes_numbered (i : Int) : stBytes ⟨ByteArray.empty, i⟩ = [0] ++ enc i.toNat := by
  have h : enc ByteArray.empty.size = [0] := by rw [show ByteArray.empty.size = 0 from rfl, enc_small (by omega)]; rfl
  show (enc ByteArray.empty.size ++ ByteArray.empty.data.toList) ++ (if ByteArray.empty.size = 0 then enc i.toNat else []) = _
  rw [h, if_pos (show ByteArray.empty.size = 0 from rfl)]
  rfl
theorem stBytes_len {x : Stp} (h : x.s.size ≤ 12) (h1 : x.id < 18446744073709551616) : (stBytes x).length ≤ 32 := by
  have h2 := enc_length_le (n := x.s.size) (by omega)
  have h3 := enc_length_le (n := x.id.toNat) (by omega)
  have h4 : x.s.data.toList.length = x.s.size := by simp
  unfold stBytes
  split <;> simp only [List.length_append, List.length_nil] <;> omega
theorem right_of {l : List Stp} (h : rightP l = true) : l.length ≤ 8 ∧ ∀ j, j < l.length → stB (stp l j) = true := by
  unfold rightP at h
  rw [Bool.and_eq_true, List.all_eq_true] at h
  exact ⟨of_decide_eq_true h.1, fun j hj => h.2 j (List.mem_range.2 hj)⟩
theorem stB_size {x : Stp} (h : stB x = true) : x.s.size ≤ 12 := by
  unfold stB at h
  rw [Bool.or_eq_true, Bool.and_eq_true, Bool.and_eq_true] at h
  rcases h with h | h
  · exact (name_size h.1).2
  · have := of_decide_eq_true h.1
    omega
theorem pB_len {l : List Stp} (h : rightP l = true) (hok : ∀ x ∈ l, StOk x) : ∀ j, j ≤ l.length → (pB l j).length ≤ 10 + 32 * j
  | 0, _ => by
    rw [pB_zero]
    have := enc_length_le (n := l.length) (by have := (right_of h).1; omega)
    omega
  | j + 1, hj => by
    have ih := pB_len h hok j (by omega)
    have hs := stBytes_len (stB_size ((right_of h).2 j (by omega))) (ok_get hok (by omega)).hi
    rw [pB_more (by omega), List.length_append]
    omega

theorem below_wrote {W w w' : World} {a : Addr} {v v' : Value} {l : List UInt8} (h : Wrote w w' a v v' l) (hW : Below W.heap.size W w) (ha : W.heap.size ≤ a.block) (hv : ∀ j, v.ownBlock = some j → W.heap.size ≤ j) :
    Below W.heap.size W w' ∧ ∀ j, v'.ownBlock = some j → W.heap.size ≤ j :=
  ⟨hW.trans (h.only.below hW.size (fun k hk => hk.elim (fun e => e ▸ ha) (hv k))), fun j hj => (h.rows j hj).elim (hv j) (fun hk => Nat.le_trans hW.size hk)⟩

end Go.Proofs.Ytpegkalhjnldkaa
