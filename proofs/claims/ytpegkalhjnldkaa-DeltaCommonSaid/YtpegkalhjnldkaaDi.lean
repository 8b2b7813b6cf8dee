/- delta.Common: slices.BinarySearch in the row of ends. (The seat's text SHELF: shelf.sh NAME "SlLaysN.n49 Slgn 49 at ALIAS <number of slices.BinarySearch> as NAME.bsH" Derived.Ground.SlgnProg Derived.Shelf.SlicesG.SearchI) -/
import Derived.Test.YtpegkalhjnldkaaDg
import Derived.Test.YtpegkalhjnldkaaShelf
namespace Go.Proofs.Ytpegkalhjnldkaa
set_option maxRecDepth 100000
set_option linter.unusedSimpArgs false
set_option linter.unusedVariables false
open Go.RowKit Go.Shelf

/-- The row of ends. -/
def En (B : Nat) (w : World) (v : Value) (E : List Nat) : Prop := w.ownsRow B 3 1 v E.length (E.map fun p : Nat => Value.int .i64 (p : Int))
theorem search_nil (p : Option Addr) (c : Nat) (x : Int) (w : World) :
    Calls Try.prog 9 #[.slice p 0 c, .int .i64 x] w fun e w' => (∃ fd, e = .returned (.tuple #[.int .i64 0, .bool fd])) ∧ ∃ q, w' = w.drewN q := by
  go_enter Try.func9, Try.ntmps9
  go_wp2_with fail
  go_loopw [7, 8] (fun s7 s8 wr => s7 = .int .i64 0 ∧ s8 = .int .i64 0 ∧ wr = w) (fun _ _ _ => 0)
  case atStart => exact ⟨rfl, rfl, rfl⟩
  case round =>
    obtain ⟨rfl, rfl, rfl⟩ := hrel
    go_wp2_with fail
    go_ret2
    exact ⟨⟨_, rfl⟩, 0, rfl⟩
theorem search_own {B : Nat} {w : World} {v : Value} {E : List Nat} (h : En B w v E) (hE : E.Pairwise (· < ·)) (i : Nat) (hsm : E.length ≤ 60) :
    Calls Try.prog 9 #[v, .int .i64 (i : Int)] w fun e w' => (∃ fd, e = .returned (.tuple #[.int .i64 ((Lcs.cnt E i : Nat) : Int), .bool fd])) ∧ ∃ q, w' = w.drewN q := by
  rcases h.2 with ⟨rfl, h0⟩ | ⟨g, cap, cur, rfl, hb, hrow, hn, hcap, hsz, htk⟩
  · have : E = [] := List.length_eq_zero_iff.1 h0
    subst this
    exact search_nil none 0 i w
  · have hcell : ∀ j, j < (E.map fun p : Nat => (p : Int)).length → w.cell? ⟨g, 0 + j, none⟩ = some (.int .i64 ((E.map fun p : Nat => (p : Int)).getD j 0)) := fun j hj => by
      rw [List.length_map] at hj
      rw [Nat.zero_add, cell_of_row _ _ _ _ _ _ hrow]
      have h1 : (cur.toList.take (E.length * 1))[j]? = (E.map fun p : Nat => Value.int .i64 (p : Int))[j]? := by rw [htk]
      rw [List.getElem?_take_of_lt (by omega), List.getElem?_map, List.getElem?_eq_getElem hj] at h1
      rw [← Array.getElem?_toList, h1]
      simp [List.getD, hj]
    have hs : ((E.map fun p : Nat => (p : Int)).take E.length).Pairwise (· ≤ ·) := by
      rw [List.take_of_length_le (by simp), List.pairwise_map]
      exact hE.imp (by intro a b hab; omega)
    refine (AnyG.slices_BinarySearch_int Ytpegkalhjnldkaa.bsH g 0 E.length cap (E.map fun p : Nat => (p : Int)) (i : Int) w (by simp) (by omega) hcell hs).mono ?_
    rintro e w' ⟨rfl, hq⟩
    refine ⟨⟨((E.map fun p : Nat => (p : Int)).take E.length).contains (i : Int), ?_⟩, hq⟩
    rw [List.take_of_length_le (by simp), List.countP_map]
    have : E.countP ((fun x : Int => decide (x < (i : Int))) ∘ fun p : Nat => (p : Int)) = Lcs.cnt E i := by
      unfold Lcs.cnt
      refine List.countP_congr fun x _ => ?_
      simp
    rw [this]

end Go.Proofs.Ytpegkalhjnldkaa
