/- A writer of fields in memory, and what writing raw bytes makes of it; for writers whose bytes lie in a row of their own. -/
import Derived.Test.YtpegkalhjnldkaaBase
import Derived.Test.YtpegkalhjnldkaaRows
import Derived.Deep.QuietTactic
import Derived.BigQuiet
namespace Go.Proofs.Ytpegkalhjnldkaa
open Go.RowKit

theorem u8_info : (Try.prog.info? 5).map (fun i => (i.zero, i.size, i.bytes)) = some (some (.int .u8 0), 1, 1) := by kernel_rfl

/-- A writer at a: what it holds is the row v, the bytes l. -/
structure Wr (w : World) (a : Addr) (v : Value) (l : List UInt8) : Prop where
  cell : w.cell? a = some v
  free : w.frozen? a = false
  row : w.ownsRow 0 5 1 v l.length (Bs l)
  off : v.ownBlock ≠ some a.block

theorem Wr.only {w w' : World} {S : Nat → Prop} {a : Addr} {v : Value} {l : List UInt8} (h : Wr w a v l) (ho : Only S w w') (h1 : ¬ S a.block) (h2 : ∀ k, v.ownBlock = some k → ¬ S k) : Wr w' a v l :=
  ⟨(ho.cell h1 (lt_of_cell h.cell)).trans h.cell, (ho.frozen h1 (lt_of_cell h.cell)).trans h.free, own_only h.row ho h2, h.off⟩
theorem Wr.below {w w' : World} {a : Addr} {v : Value} {l : List UInt8} (h : Wr w a v l) (ho : Below w.heap.size w w') : Wr w' a v l :=
  h.only (Only.of_below ho (fun _ => False)) (fun h => h) (fun _ _ h => h)
theorem Wr.alloc {w : World} {a : Addr} {v : Value} {l : List UInt8} (h : Wr w a v l) (o : Obj) : Wr (w.alloc o) a v l := h.below ((Below.refl _ _).alloc (Nat.le_refl _) _)
theorem Wr.lt {w : World} {a : Addr} {v : Value} {l : List UInt8} (h : Wr w a v l) : a.block < w.heap.size := lt_of_cell h.cell
theorem Wr.rowlt {w : World} {a : Addr} {v : Value} {l : List UInt8} (h : Wr w a v l) : ∀ k, v.ownBlock = some k → k < w.heap.size := fun k hk => (h.row.lt k hk).2

theorem raw_wr {w w' : World} {a : Addr} {v' u : Value} {l k : List UInt8} {b : Option Nat} (hc : w'.cell? a = some u) (hf : w'.frozen? a = false) (hal : a.block < w.heap.size)
    (hown : w'.ownsRow 0 5 1 v' (l.length + k.length) (Bs l ++ Bs k)) (hat : v'.ownBlock = b ∨ v'.ownBlock = some w.heap.size) (hoff : b ≠ some a.block) :
    Wr (w'.setCell a v') a v' (l ++ k) := by
  have hne : v'.ownBlock ≠ some a.block := by
    rcases hat with h | h
    · rw [h]; exact hoff
    · rw [h]; intro e; injection e with e; omega
  refine ⟨World.cell?_setCell_same _ _ _ hc, by rw [World.frozen?_setCell]; exact hf, ?_, hne⟩
  rw [List.length_append, Bs_append]
  exact hown.kept (row := some a.block) ⟨rfl, rfl, rfl, by simp, fun j _ hj => Below.heap_setCell _ _ _ _ (fun e => hj (by rw [e]))⟩ (.inr hne)

/-- The writer at a held the row v in w; in w' it holds v', with the bytes l. -/
structure Wrote (w w' : World) (a : Addr) (v v' : Value) (l : List UInt8) : Prop where
  wr : Wr w' a v' l
  only : Only (fun j => j = a.block ∨ v.ownBlock = some j) w w'
  near : v'.ownBlock = v.ownBlock ∨ ∃ g, v'.ownBlock = some g ∧ w.heap.size ≤ g

section
variable {w w' w'' : World} {a : Addr} {v v' v'' : Value} {l k : List UInt8}
theorem Wrote.refl (h : Wr w a v l) : Wrote w w a v v l := ⟨h, Only.refl _ _, .inl rfl⟩
theorem Wrote.trans (h : Wrote w w' a v v' l) (h' : Wrote w' w'' a v' v'' k) : Wrote w w'' a v v'' k := by
  refine ⟨h'.wr, h.only.trans h'.only fun j hj hk => ?_, ?_⟩
  · rcases hk with hk | hk
    · exact .inl hk
    · rcases h.near with e | ⟨g, e, hg⟩
      · rw [e] at hk; exact .inr hk
      · rw [e] at hk; injection hk with hk; omega
  · rcases h'.near with e | ⟨g, e, hg⟩
    · rw [e]; exact h.near
    · exact .inr ⟨g, e, Nat.le_trans h.only.size hg⟩
theorem Wrote.after {w0 : World} (h : Wrote w w' a v v' l) (hb : Below w0.heap.size w0 w) : Wrote w0 w' a v v' l :=
  ⟨h.wr, (Only.of_below hb _).trans h.only fun _ _ hk => hk, h.near.imp id fun ⟨g, e, hg⟩ => ⟨g, e, Nat.le_trans hb.size hg⟩⟩
theorem Wrote.then (h : Wrote w w' a v v' l) (hb : Below w'.heap.size w' w'') : Wrote w w'' a v v' l :=
  ⟨h.wr.below hb, h.only.trans (Only.of_below hb (fun _ => False)) fun _ _ hk => hk.elim, h.near⟩
theorem Wrote.rows (h : Wrote w w' a v v' l) : ∀ j, v'.ownBlock = some j → v.ownBlock = some j ∨ w.heap.size ≤ j := fun j hj => by
  rcases h.near with e | ⟨g, e, hg⟩
  · rw [e] at hj; exact .inl hj
  · rw [e] at hj; injection hj with hj; exact .inr (by omega)
end

end Go.Proofs.Ytpegkalhjnldkaa
