/- FaultWraps: of any number in any places what is told of it. -/
import Derived.Test.YtaekepejeokciaaDoorMadeB
import Derived.Deep.RegionHeld3
namespace Go.Proofs.YtaekepejeokciaaDoor
set_option maxRecDepth 100000
open Go.RowKit

/-- An error, or nil: the places, and the number; 0 of nil. -/
def Er (w : World) (ps : List Int) (n : Int) (x : Value) : Prop :=
  (n = 0 ∧ ps = [] ∧ x = .nilIface) ∨ (n ≠ 0 ∧ Ch w ps n w.heap.size x)
theorem Er.below {w w' : World} {ps : List Int} {n : Int} {x : Value} (h : Er w ps n x) (hb : Below w.heap.size w w') : Er w' ps n x :=
  h.imp id fun ⟨h1, h2⟩ => ⟨h1, (h2.below hb).more hb.size⟩
theorem Er.form {w : World} {ps : List Int} {n : Int} {x : Value} (h : Er w ps n x) : x = .nilIface ∨ ∃ T y, x = .iface T y := by
  rcases h with ⟨_, _, rfl⟩ | ⟨_, h⟩
  · exact .inl rfl
  · exact .inr h.iface

theorem code_er (ps : List Int) (n : Int) (x : Value) (w : World) (h : Er w ps n x) (hn : ps.length ≤ 1000) (hg : ErrTy w) :
    Calls Tryd.prog 10 #[x] w fun e w' => e = .returned (.int .i64 n) ∧ Below w.heap.size w w' := by
  rcases h with ⟨rfl, rfl, rfl⟩ | ⟨_, h⟩
  · exact code_nil w
  · exact code_any ps n _ x w h hn hg
theorem place_er (ps : List Int) (n : Int) (x : Value) (w : World) (h : Er w ps n x) (hn : ps.length ≤ 1000) (hg : ErrTy w) :
    Calls Tryd.prog 13 #[x] w fun e w' => e = .returned (.int .i64 (plc ps)) ∧ Below w.heap.size w w' := by
  rcases h with ⟨rfl, rfl, rfl⟩ | ⟨_, h⟩
  · exact place_nil w
  · exact place_any ps n _ x w h hn hg
theorem places_er (ps : List Int) (n : Int) (x : Value) (w : World) (h : Er w ps n x) (hn : ps.length ≤ 1000) (hg : ErrTy w) :
    Calls Tryd.prog 12 #[x] w fun e w' => ∃ A m c, e = .returned (.slice A m c) ∧ Rd w' (fun _ => True) A m (Is ps) ∧ Below w.heap.size w w' := by
  rcases h with ⟨rfl, rfl, rfl⟩ | ⟨_, h⟩
  · exact (places_nil w).mono fun e w' ⟨he, hb⟩ => ⟨none, 0, 0, he, Rd.nil _ _ _, hb⟩
  · refine (places_any ps n _ x w h hn hg).mono fun e w' ⟨v1, he, ho, hb⟩ => ?_
    obtain ⟨A, c, rfl⟩ := own_slice ho
    exact ⟨A, _, c, he, (Rd.of_own ho).mono fun _ _ _ => trivial, hb⟩
theorem lcode_er (ps : List Int) (n : Int) (x : Value) (w : World) (h : Er w ps n x) (hg : ErrTy w) :
    Calls Tryd.prog 18 #[x] w fun e w' => e = .returned (.int .i64 n) ∧ Below w.heap.size w w' := by
  rcases h with ⟨rfl, rfl, rfl⟩ | ⟨_, h⟩
  · exact (lcode_nil w).mono fun e w' ⟨he, hw⟩ => ⟨he, hw ▸ Below.refl _ _⟩
  · exact lcode_any ps n _ x w h hg

/-- The places that an error of a number is laid in. -/
def madeP (n : Int) (zs : List Int) : List Int := if n = 0 then [] else (zs.take 40).reverse
theorem madeP_length (n : Int) (zs : List Int) : (madeP n zs).length ≤ 40 := by
  unfold madeP; split <;> simp; omega

theorem made_er (code : Nat) (n : Int) (a : Option Addr) (len c : Nat) (zs : List Int) (F : Nat → Prop) (w : World) (hc : code < 256) (h16 : (code : Int) % 16 = n) (hr : Rd w F a len (Is zs)) (hlen : len ≤ 9223372036854775807) :
    Calls Tryd.prog 9 #[.int .u8 code, .slice a len c] w fun e w' => ∃ x A m c', e = .returned (.tuple #[x, .agg #[.int .i64 n, .slice A m c']]) ∧ Er w' (madeP n zs) n x ∧
      Rd w' (fun _ => True) A m (Is (madeP n zs)) ∧ Below w.heap.size w w' := by
  by_cases h0 : n = 0
  · subst h0
    exact (made_zero code a len c zs F w hc (by omega) hr hlen).mono fun e w' ⟨he, hb⟩ => ⟨_, none, 0, 0, he, .inl ⟨rfl, by simp [madeP], rfl⟩, by rw [madeP, if_pos rfl]; exact Rd.nil _ _ _, hb⟩
  · refine (made_any code n a len c zs F w hc h16 (by omega) hr hlen).mono fun e w' ⟨x, v, he, hch, ho, hb⟩ => ?_
    obtain ⟨A, c', rfl⟩ := own_slice ho
    exact ⟨x, A, _, c', he, .inr ⟨h0, by rw [madeP, if_neg h0]; exact hch⟩, by rw [madeP, if_neg h0]; exact (Rd.of_own ho).mono fun _ _ _ => trivial, hb⟩

end Go.Proofs.YtaekepejeokciaaDoor
