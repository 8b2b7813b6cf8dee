/- line.Sort. -/
import Derived.Test.YtocgeemjdlnabaaLg
import Derived.Laws.AppendOwn
import Derived.Lib.SliceRun
namespace Go.Proofs.Ytocgeemjdlnabaa
set_option maxRecDepth 100000
set_option linter.unusedSimpArgs false
set_option linter.unusedVariables false
open Go.RowKit

theorem hash_infoM : ∃ i : TypeInfo, Try.prog.info? 26 = some i ∧ i.zero = some (.agg (Value.int .i64 0 :: List.replicate 32 (Value.int .u8 0)).toArray) ∧ i.size = 33 ∧ i.bytes = 40 := by
  refine ⟨_, rfl, ?_, ?_, ?_⟩ <;> kernel_rfl
set_option maxHeartbeats 1600000 in
theorem hclone_anyM (ad : Addr) (n c : Nat) (news : List Value) (w : World) (hl : news.length = n * 33) (hn : n ≤ 1000000) (hc : ∀ j u, news[j]? = some u → w.cell? (ad.add j) = some u) (h1 : ∀ u ∈ news, u.oneCell' = true) :
    Calls Try.prog 22 #[.slice (some ad) n c] w fun e w' => ∃ v', e = .returned v' ∧ w'.ownsRow w.heap.size 26 33 v' n news ∧ Below w.heap.size w w' := by
  obtain ⟨i, hi, hz, hs, hb⟩ := hash_infoM
  have q22 : ∀ (w : World) (a : Option Addr) (n c n' c' : Nat), (binOp .eql 22 (.slice a n c) (.slice none n' c')).run Try.prog w = .ok (.bool a.isNone) w := fun w a n c n' c' => Lib.run_eql_slice_nil w _ _ a n c n' c' Try.underlying22
  have HC := Lib.hid hc
  have H1 := Lib.hid h1
  clear hc h1
  go_enter Try.func22, Try.ntmps22
  go_wp2_with (at_builtin; refine wpList_append_own _ rfl (.tmp 5) (.tmp 6) 22 rfl w.heap.size 26 i _ 33 40 Try.underlying22 hi hz hs hb (by simp [Value.cells]) (by omega) _ 0 [] rfl (World.ownsRow_made w #[] 0 (Nat.le_refl _) (Nat.zero_le _) (by simp)) ad n c news rfl hl ?q1 H1.out ?q2 ?q3 ?q4 ?_)
  case q1 =>
    intro j u hj
    exact Lib.cell?_alloc_some _ (HC.out j u hj)
  case q2 => unfold maxLen; omega
  case q3 => omega
  case q4 => simp
  intro v' w1 hown hgrow hnil
  have HOWN := Lib.hid hown
  have HGROW := Lib.hid hgrow
  clear hown hgrow hnil
  go_wp2_with fail
  go_ret
  refine ⟨v', rfl, by simpa using HOWN.out, ?_⟩
  exact ((Below.refl _ w).alloc (Nat.le_refl _) _).grown HGROW.out (by simp) (by intro k hk; simp [Value.ownBlock] at hk; omega)
theorem hclone_nilM (n c : Nat) (w : World) :
    Calls Try.prog 22 #[.slice none n c] w fun e w' => e = .returned (.slice none 0 0) ∧ w' = w := by
  have q22 : ∀ (w : World) (a : Option Addr) (n c n' c' : Nat), (binOp .eql 22 (.slice a n c) (.slice none n' c')).run Try.prog w = .ok (.bool a.isNone) w := fun w a n c n' c' => Lib.run_eql_slice_nil w _ _ a n c n' c' Try.underlying22
  go_enter Try.func22, Try.ntmps22
  go_wp2
  go_ret
  exact ⟨rfl, rfl⟩
theorem compact_0M (p : Option Addr) (c : Nat) (w : World) :
    Calls Try.prog 25 #[.slice p 0 c] w fun e w' => e = .returned (.slice p 0 c) ∧ w' = w := by
  go_enter Try.func25, Try.ntmps25
  go_wp2_with fail
  go_ret
  exact ⟨rfl, rfl⟩
/-- A slice of names, wherever it lies. -/
def RdHM (w : World) (A : Option Addr) (n : Nat) (D : List Mk) : Prop :=
  D.length = n ∧ (0 < n → ∃ ad, A = some ad ∧ ad.block < w.heap.size ∧ ∀ j v, (flatM D)[j]? = some v → w.cell? (ad.add j) = some v)
theorem flat_oneM (D : List Mk) : ∀ u ∈ flatM D, u.oneCell' = true := fun u hu => by
  unfold flatM at hu
  rw [List.mem_flatMap] at hu
  obtain ⟨x, _, hx⟩ := hu
  exact x.c_one u hx
theorem own_rowM {w : World} {B n : Nat} {v : Value} {D : List Mk} (h : w.ownsRow B 26 33 v n (flatM D)) (hn : 0 < n) : ∃ g cap R, v = .slice (some ⟨g, 0, none⟩) n cap ∧ B ≤ g ∧ Row w g 26 (flatM D ++ R) ∧ n ≤ cap ∧ cap ≤ maxLen ∧ (flatM D ++ R).length = cap * 33 := by
  rcases h.2 with h' | ⟨g, cap, cur, rfl, hb, hh, h1, h2, h3, h4⟩
  · exact absurd h'.2 (by omega)
  refine ⟨g, cap, cur.toList.drop (n * 33), rfl, hb, ?_, h1, h2, ?_⟩
  · show w.heap[g]? = _
    rw [← h4, List.take_append_drop]
    exact hh
  · rw [← h4, List.take_append_drop, Array.length_toList, h3]
theorem row_ownM {w : World} {B g cap : Nat} {L : List Mk} {R : List Value} (hb : B ≤ g) (h : Row w g 26 (flatM L ++ R)) (hc : (flatM L ++ R).length = cap * 33) (hL : L.length ≤ cap) (hm : cap ≤ maxLen) : w.ownsRow B 26 33 (.slice (some ⟨g, 0, none⟩) L.length cap) L.length (flatM L) := by
  refine ⟨flat_lengthM L, Or.inr ⟨g, cap, (flatM L ++ R).toArray, rfl, hb, h, hL, hm, by simpa using hc, ?_⟩⟩
  rw [List.toList_toArray, List.take_left' (flat_lengthM L)]

end Go.Proofs.Ytocgeemjdlnabaa
