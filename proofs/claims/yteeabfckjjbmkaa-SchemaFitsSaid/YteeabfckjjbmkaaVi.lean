/- Trees that lie within certain blocks. -/
import Derived.Test.YteeabfckjjbmkaaRd
import Derived.Test.YteeabfckjjbmkaaTk
namespace Go.Proofs.Yteeabfckjjbmkaa
set_option maxRecDepth 100000
set_option linter.unusedSimpArgs false
set_option linter.unusedVariables false
open Go.RowKit

def PartsX (X : Nat → Prop) (w : World) (s : Nat) (c : Option Addr) (n : Nat) (css : Nat → List Value) : Prop :=
  0 < n → ∃ ad, c = some ad ∧ X ad.block ∧ ad.block < w.heap.size ∧ ∀ j, j < n → (css j).length = s ∧ ∀ i u, (css j)[i]? = some u → w.cell? (ad.add (j * s + i)) = some u
inductive VIn (X : Nat → Prop) (w : World) : Vt → List Value → Prop
  | mk {k n : Int} {s : ByteArray} {names : List ByteArray} {ids : List Int} {len : Nat} {parts : Nat → Vt} {a b c : Option Addr} {la ca lb cb cc : Nat} (css : Nat → List Value)
      (hk : (Lit.int .i64 k).wf = true) (hn : (Lit.int .i64 n).wf = true) (hs : s.size ≤ maxLen)
      (h1 : Rd w X a la (names.map Value.string)) (h1c : la ≤ ca ∧ ca ≤ maxLen) (hss : ∀ x ∈ names, x.size ≤ maxLen)
      (h2 : Rd w X b lb (ids.map (Value.int .u64))) (h2c : lb ≤ cb ∧ cb ≤ maxLen) (hi : ∀ x ∈ ids, (Lit.int .u64 x).wf = true)
      (h3 : PartsX X w 6 c len css) (h3c : len ≤ cc ∧ cc ≤ maxLen) (h : ∀ j, j < len → VIn X w (parts j) (css j)) :
      VIn X w (.mk k n s names ids len parts) [.int .i64 k, .int .i64 n, .string s, .slice a la ca, .slice b lb cb, .slice c len cc]
inductive SIn (X : Nat → Prop) (w : World) : St → List Value → Prop
  | mk {k : Int} {words : List ByteArray} {len : Nat} {parts : Nat → St} {a c : Option Addr} {la ca cc : Nat} (css : Nat → List Value)
      (hk : (Lit.int .i64 k).wf = true)
      (h1 : Rd w X a la (words.map Value.string)) (h1c : la ≤ ca ∧ ca ≤ maxLen) (hss : ∀ x ∈ words, x.size ≤ maxLen)
      (h3 : PartsX X w 3 c len css) (h3c : len ≤ cc ∧ cc ≤ maxLen) (h : ∀ j, j < len → SIn X w (parts j) (css j)) :
      SIn X w (.mk k words len parts) [.int .i64 k, .slice a la ca, .slice c len cc]
theorem Rd.weak {w : World} {X Y : Nat → Prop} {a : Option Addr} {n : Nat} {l : List Value} (h : Rd w X a n l) (hY : ∀ g, X g → Y g) : Rd w Y a n l := ⟨h.1, fun hn => by
  obtain ⟨ad, e, hx, hlt, hc⟩ := h.2 hn
  exact ⟨ad, e, hY _ hx, hlt, hc⟩⟩
/-- What lies in blocks that stay as they are stays as it is. -/
theorem Rd.kept {w w' : World} {X Y : Nat → Prop} {a : Option Addr} {n : Nat} {l : List Value} (h : Rd w X a n l) (hs : w.heap.size ≤ w'.heap.size) (hY : ∀ g, X g → g < w.heap.size → Y g ∧ w'.heap[g]? = w.heap[g]?) : Rd w' Y a n l := ⟨h.1, fun hn => by
  obtain ⟨ad, e, hx, hlt, hc⟩ := h.2 hn
  obtain ⟨hy, hh⟩ := hY _ hx hlt
  exact ⟨ad, e, hy, Nat.lt_of_lt_of_le hlt hs, fun j u hu => (World.cell?_of_block (a := ad.add j) (by rw [add_block]; exact hh)).trans (hc j u hu)⟩⟩
theorem PartsX.kept {w w' : World} {X Y : Nat → Prop} {s : Nat} {c : Option Addr} {n : Nat} {css : Nat → List Value} (h : PartsX X w s c n css) (hs : w.heap.size ≤ w'.heap.size) (hY : ∀ g, X g → g < w.heap.size → Y g ∧ w'.heap[g]? = w.heap[g]?) : PartsX Y w' s c n css := fun hn => by
  obtain ⟨ad, e, hx, hlt, hc⟩ := h hn
  obtain ⟨hy, hh⟩ := hY _ hx hlt
  exact ⟨ad, e, hy, Nat.lt_of_lt_of_le hlt hs, fun j hj => ⟨(hc j hj).1, fun i u hu => (World.cell?_of_block (a := ad.add (j * s + i)) (by rw [add_block]; exact hh)).trans ((hc j hj).2 i u hu)⟩⟩
theorem VIn.kept {w w' : World} {X Y : Nat → Prop} (hs : w.heap.size ≤ w'.heap.size) (hY : ∀ g, X g → g < w.heap.size → Y g ∧ w'.heap[g]? = w.heap[g]?) : ∀ {v : Vt} {cs : List Value}, VIn X w v cs → VIn Y w' v cs := by
  intro v cs h
  induction h with
  | mk css hk hn hsz h1 h1c hss h2 h2c hi h3 h3c _ ih => exact .mk css hk hn hsz (Rd.kept h1 hs hY) h1c hss (Rd.kept h2 hs hY) h2c hi (h3.kept hs hY) h3c ih
theorem SIn.kept {w w' : World} {X Y : Nat → Prop} (hs : w.heap.size ≤ w'.heap.size) (hY : ∀ g, X g → g < w.heap.size → Y g ∧ w'.heap[g]? = w.heap[g]?) : ∀ {v : St} {cs : List Value}, SIn X w v cs → SIn Y w' v cs := by
  intro v cs h
  induction h with
  | mk css hk h1 h1c hss h3 h3c _ ih => exact .mk css hk (Rd.kept h1 hs hY) h1c hss (h3.kept hs hY) h3c ih
theorem PartsX.plain {w : World} {X : Nat → Prop} {s : Nat} {c : Option Addr} {n : Nat} {css : Nat → List Value} (h : PartsX X w s c n css) : Parts w s c n css := fun hn => by
  obtain ⟨ad, e, _, hlt, hc⟩ := h hn
  exact ⟨ad, e, hlt, hc⟩
theorem VIn.vat {w : World} {X : Nat → Prop} : ∀ {v : Vt} {cs : List Value}, VIn X w v cs → VAt w v cs := by
  intro v cs h
  induction h with
  | mk css hk hn hsz h1 h1c hss h2 h2c hi h3 h3c _ ih => exact .mk css hk hn hsz (Rd.weak h1 fun _ _ => trivial) h1c hss (Rd.weak h2 fun _ _ => trivial) h2c hi h3.plain h3c ih
theorem SIn.sat {w : World} {X : Nat → Prop} : ∀ {v : St} {cs : List Value}, SIn X w v cs → SAt w v cs := by
  intro v cs h
  induction h with
  | mk css hk h1 h1c hss h3 h3c _ ih => exact .mk css hk (Rd.weak h1 fun _ _ => trivial) h1c hss h3.plain h3c ih
theorem VIn.length {w : World} {X : Nat → Prop} {v : Vt} {cs : List Value} (h : VIn X w v cs) : cs.length = 6 := by cases h; rfl
theorem SIn.length {w : World} {X : Nat → Prop} {v : St} {cs : List Value} (h : SIn X w v cs) : cs.length = 3 := by cases h; rfl
theorem VIn.weak {w : World} {X Y : Nat → Prop} (hY : ∀ g, X g → Y g) {v : Vt} {cs : List Value} (h : VIn X w v cs) : VIn Y w v cs := h.kept (Nat.le_refl _) fun g hx _ => ⟨hY g hx, rfl⟩
/-- One without lists. -/
theorem VIn.bare (X : Nat → Prop) (w : World) (k n : Int) (s : ByteArray) (parts : Nat → Vt) (hk : (Lit.int .i64 k).wf = true) (hn : (Lit.int .i64 n).wf = true) (hs : s.size ≤ maxLen) :
    VIn X w (.mk k n s [] [] 0 parts) [.int .i64 k, .int .i64 n, .string s, .slice none 0 0, .slice none 0 0, .slice none 0 0] :=
  .mk (fun _ => []) hk hn hs (Rd.nil _ _ _) ⟨Nat.le_refl _, Nat.zero_le _⟩ (fun _ h => by cases h) (Rd.nil _ _ _) ⟨Nat.le_refl _, Nat.zero_le _⟩ (fun _ h => by cases h) (fun h => absurd h (Nat.lt_irrefl 0)) ⟨Nat.le_refl _, Nat.zero_le _⟩ (fun j h => absurd h (Nat.not_lt_zero j))
/-- What the call's own row says. -/
theorem own_rd {w : World} {B : Nat} {T : TypeId} {v : Value} {n : Nat} {l : List Value} (h : w.ownsRow B T 1 v n l) : ∃ a cap, v = .slice a n cap ∧ Rd w (fun g => B ≤ g) a n l ∧ (n ≤ cap ∧ cap ≤ maxLen) ∧ (0 < n → a.map (·.block) = v.ownBlock) := by
  have hlt := h.lt
  rcases h.2 with ⟨rfl, rfl⟩ | ⟨g, cap, cur, rfl, hb, hg, hnc, hcm, _, _⟩
  · refine ⟨none, 0, rfl, ⟨by have := h.1; simpa using this, fun h0 => absurd h0 (Nat.lt_irrefl 0)⟩, ⟨Nat.le_refl _, Nat.zero_le _⟩, fun h0 => absurd h0 (Nat.lt_irrefl 0)⟩
  · refine ⟨some ⟨g, 0, none⟩, cap, rfl, ⟨by have := h.1; simpa using this, fun _ => ⟨_, rfl, hb, (hlt g rfl).2, fun j u hu => h.cells (g := g) rfl j u hu⟩⟩, ⟨hnc, hcm⟩, fun _ => rfl⟩
theorem flat_len {s : Nat} {css : Nat → List Value} : ∀ {n : Nat}, (∀ j, j < n → (css j).length = s) → ((List.range n).flatMap css).length = n * s
  | 0, _ => by simp
  | n + 1, h => by
    rw [List.range_succ, List.flatMap_append, List.length_append, flat_len (fun j hj => h j (by omega))]
    simp only [List.flatMap_cons, List.flatMap_nil, List.append_nil]
    rw [h n (by omega), Nat.succ_mul]
theorem flat_get {s : Nat} {css : Nat → List Value} : ∀ {n : Nat}, (∀ j, j < n → (css j).length = s) → ∀ {j i : Nat} {u : Value}, j < n → (css j)[i]? = some u → ((List.range n).flatMap css)[j * s + i]? = some u
  | 0, _, j, _, _, hj, _ => by omega
  | n + 1, h, j, i, u, hj, hu => by
    have hi : i < s := by have := (List.getElem?_eq_some_iff.1 hu).1; rw [h j hj] at this; exact this
    have hl := flat_len (fun j (hj : j < n) => h j (by omega))
    rw [List.range_succ, List.flatMap_append]
    by_cases hjn : j < n
    · rw [List.getElem?_append_left (by rw [hl]; have := Nat.mul_le_mul_right s (show j + 1 ≤ n by omega); rw [Nat.succ_mul] at this; omega)]
      exact flat_get (fun j hj => h j (by omega)) hjn hu
    · obtain rfl : j = n := by omega
      rw [List.getElem?_append_right (by rw [hl]; omega), hl, Nat.add_sub_cancel_left]
      simpa using hu
theorem own_parts {w : World} {B s : Nat} {T : TypeId} {v : Value} {n : Nat} {css : Nat → List Value} (hs : ∀ j, j < n → (css j).length = s) (h : w.ownsRow B T s v n ((List.range n).flatMap css)) :
    ∃ a cap, v = .slice a n cap ∧ PartsX (fun g => B ≤ g) w s a n css ∧ (n ≤ cap ∧ cap ≤ maxLen) := by
  have hlt := h.lt
  rcases h.2 with ⟨rfl, rfl⟩ | ⟨g, cap, cur, rfl, hb, hg, hnc, hcm, _, _⟩
  · exact ⟨none, 0, rfl, fun h0 => absurd h0 (Nat.lt_irrefl 0), ⟨Nat.le_refl _, Nat.zero_le _⟩⟩
  · exact ⟨some ⟨g, 0, none⟩, cap, rfl, fun _ => ⟨_, rfl, hb, (hlt g rfl).2, fun j hj => ⟨hs j hj, fun i u hu => h.cells (g := g) rfl (j * s + i) u (flat_get hs hj hu)⟩⟩, ⟨hnc, hcm⟩⟩

end Go.Proofs.Yteeabfckjjbmkaa
