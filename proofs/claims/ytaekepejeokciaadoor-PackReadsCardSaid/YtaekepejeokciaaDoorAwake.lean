/- The examples of the chapter on bytes come out true; no condition. -/
import Derived.Test.YtaekepejeokciaaDoorEnd
import Derived.Test.YtaekepejeokciaaDoorEq
namespace Go.Proofs.YtaekepejeokciaaDoor
open Go.RowKit

theorem Wr.new (w : World) : Wr (w.alloc (.cells #[.slice none 0 0] 101)) ⟨w.heap.size, 0, none⟩ (.slice none 0 0) [] :=
  ⟨by simp, by simp, World.ownsRow_nil _ _ _ _, by simp [Value.ownBlock]⟩

theorem enc_three : ([] ++ enc 300) ++ enc (zig (-1)) = [172, 2, 1] := by
  have h : zig (-1) = 1 := by decide
  rw [h, enc_big (n := 300) (by omega), enc_small (n := 300 / 128) (by omega), enc_small (n := 1) (by omega)]
  rfl

set_option maxHeartbeats 400000 in
theorem awake_any (w : World) : Calls Tryd.prog 25 #[] w fun e w' => e = .returned (.bool true) ∧ Below w.heap.size w w' := by
  go_enter Tryd.func25, Tryd.ntmps25
  go_wp2_with fail
  refine (number_any ⟨w.heap.size, 0, none⟩ (.slice none 0 0) [] 300 _ (Wr.new w) (by omega) (by simp)).mono ?_
  rintro e w1 ⟨rfl, v1, hw1⟩
  go_wp2_with fail
  refine (int_any ⟨w.heap.size, 0, none⟩ v1 ([] ++ enc 300) (-1) _ hw1.wr (by omega) (by omega) (by have := enc_length_le (n := 300) (by omega); simp; omega)).mono ?_
  rintro e w2 ⟨rfl, v2, hw2⟩
  rw [enc_three] at hw2
  go_wp2_with fail
  refine (out_any ⟨w.heap.size, 0, none⟩ v2 [172, 2, 1] _ hw2.wr (by simp)).mono ?_
  rintro e w3 ⟨v3, rfl, hown, hbel⟩
  obtain ⟨A, c, rfl⟩ := own_slice hown
  have HO := Lib.hid hown
  have HB := Lib.hid hbel
  clear hown hbel
  go_wp2_with fail
  refine (bytes_any A _ 3 3 c 3 [172, 2, 1] [172, 2, 1] _ _ _ (by unfold maxLen; omega) ((Rd.of_own HO.out).belowAll ((Below.refl _ _).alloc (Nat.le_refl _) _)) (Rd.lit _ _ _ _ rfl 3 rfl)).mono ?_
  rintro e w4 ⟨rfl, q, rfl⟩
  go_wp2_with fail
  go_ret
  refine ⟨rfl, ?_⟩
  have h1 : Only (fun j => w.heap.size ≤ j) w w1 := (Only.of_below ((Below.refl _ _).alloc (Nat.le_refl _) _) _).trans hw1.only fun k hk h => by
    rcases h with h | h
    · simp at h; omega
    · simp [Value.ownBlock] at h
  have h2 : Only (fun j => w.heap.size ≤ j) w w2 := h1.trans hw2.only fun k hk h => by
    rcases h with h | h
    · simp at h; omega
    · rcases hw1.rows k h with h | h
      · simp [Value.ownBlock] at h
      · simp at h; omega
  have h3 := h2.trans (Only.of_below HB.out (fun _ => False)) fun _ _ h => h.elim
  exact ((h3.alloc _).drewN q).below (Nat.le_refl _) fun _ h => h
end Go.Proofs.YtaekepejeokciaaDoor
