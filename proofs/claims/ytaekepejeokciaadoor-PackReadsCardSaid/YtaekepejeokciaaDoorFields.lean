/- A slice of fields that came in, read as a list of plain data; for any such slice. -/
import Derived.Test.YtaekepejeokciaaDoorRow
import Derived.Deep.Slices
import Derived.Deep.Fields
import Derived.ChangeSame
import Derived.SizedLaws
namespace Go.Proofs.YtaekepejeokciaaDoor
set_option maxRecDepth 100000
open Go.RowKit Go.ChangeShapes Go.WideShapes

/-- A field, as plain data. -/
structure Fd where
  kind : Int
  n : Nat
  b : List UInt8
  most : Int

/-- The four cells of a field at ad; its bytes lie at A. -/
structure FdAt (w : World) (F : Nat → Prop) (ad : Addr) (f : Fd) (A : Option Addr) (c : Nat) : Prop where
  c0 : w.cell? (ad.add 0) = some (.int .i64 f.kind)
  c1 : w.cell? (ad.add 1) = some (.int .u64 f.n)
  c2 : w.cell? (ad.add 2) = some (.slice A f.b.length c)
  c3 : w.cell? (ad.add 3) = some (.int .i64 f.most)
  rd : Rd w F A f.b.length (Bs f.b)
  cap : f.b.length ≤ c
  top : c ≤ 140737488351232
  blk : F ad.block
  lt : ad.block < w.heap.size
  k1 : -9223372036854775808 ≤ f.kind
  k2 : f.kind ≤ 9223372036854775807
  n1 : f.n < 18446744073709551616
  m1 : -9223372036854775808 ≤ f.most
  m2 : f.most ≤ 9223372036854775807

theorem FdAt.keep {w w' : World} {F : Nat → Prop} {ad : Addr} {f : Fd} {A : Option Addr} {c : Nat} (h : FdAt w F ad f A c) (hs : w.heap.size ≤ w'.heap.size) (hk : ∀ k, F k → k < w.heap.size → w'.heap[k]? = w.heap[k]?) : FdAt w' F ad f A c := by
  have g : ∀ j, w'.cell? (ad.add j) = w.cell? (ad.add j) := fun j => World.cell?_of_block (by rw [add_block]; exact hk _ h.blk h.lt)
  exact ⟨(g 0).trans h.c0, (g 1).trans h.c1, (g 2).trans h.c2, (g 3).trans h.c3, h.rd.keep hs hk, h.cap, h.top, h.blk, Nat.lt_of_lt_of_le h.lt hs, h.k1, h.k2, h.n1, h.m1, h.m2⟩

theorem FdAt.below {w w' : World} {ad : Addr} {f : Fd} {A : Option Addr} {c B : Nat} (h : FdAt w (fun j => j < B) ad f A c) (hb : Below B w w') : FdAt w' (fun j => j < B) ad f A c :=
  h.keep hb.size fun k hk _ => hb.block k hk
/-- The cells as a walk spells them. -/
theorem FdAt.cells {w : World} {F : Nat → Prop} {ad : Addr} {f : Fd} {A : Option Addr} {c : Nat} (h : FdAt w F ad f A c) :
    w.cell? ad = some (.int .i64 f.kind) ∧ w.cell? ⟨ad.block, ad.off + 1, none⟩ = some (.int .u64 f.n) ∧ w.cell? ⟨ad.block, ad.off + 2, none⟩ = some (.slice A f.b.length c) ∧ w.cell? ⟨ad.block, ad.off + 3, none⟩ = some (.int .i64 f.most) :=
  ⟨h.c0, h.c1, h.c2, h.c3⟩

/-- A slice of fields. -/
def Fds (w : World) (F : Nat → Prop) (a : Option Addr) (n : Nat) (l : List Fd) : Prop :=
  l.length = n ∧ ∀ i f, l[i]? = some f → ∃ ad A c, a = some ad ∧ FdAt w F (ad.add (i * 4)) f A c

theorem Fds.keep {w w' : World} {F : Nat → Prop} {a : Option Addr} {n : Nat} {l : List Fd} (h : Fds w F a n l) (hs : w.heap.size ≤ w'.heap.size) (hk : ∀ k, F k → k < w.heap.size → w'.heap[k]? = w.heap[k]?) : Fds w' F a n l :=
  ⟨h.1, fun i f hi => by obtain ⟨ad, A, c, e, hf⟩ := h.2 i f hi; exact ⟨ad, A, c, e, hf.keep hs hk⟩⟩
theorem Fds.below {w w' : World} {a : Option Addr} {n B : Nat} {l : List Fd} (h : Fds w (fun j => j < B) a n l) (hb : Below B w w') : Fds w' (fun j => j < B) a n l :=
  h.keep hb.size fun k hk _ => hb.block k hk

section
variable {H : Type} {enc : TypeId × Value → H} {w : World} {base : Nat} {held : Bool}

theorem weights_all {P : Program} {e : TypeId} : ∀ {l : List (DataW H)} {d : DataW H}, d ∈ l → ∀ n ∈ d.weights P e, n ∈ DataW.weightsAll P e l
  | c :: l, d, hd, n, hn => by
    simp only [DataW.weightsAll, List.mem_append]
    rcases List.mem_cons.1 hd with rfl | h
    · exact .inl hn
    · exact .inr (weights_all h n hn)
  | [], _, hd, _, _ => by cases hd

theorem bytes_one : Tryd.prog.bytesOf 5 = 1 := by kernel_rfl

/-- Bytes that came in, as their one cell. -/
theorem trod_bytes {fuel : Nat} {cs : List Value} {x : DataW H × List MemPlace} (h : DataW.trod enc Tryd.prog w base (fun _ => true) held fuel 47 cs = some x) (hs : ∀ n ∈ x.1.weights Tryd.prog 47, n ≤ reachBytes) :
    ∃ A n c l, cs = [.slice A n c] ∧ Rd w (fun j => j < w.heap.size) A n (Bs l) ∧ n ≤ c ∧ c ≤ 140737488351232 := by
  rcases open_ints Tryd.underlying47 Tryd.underlying5 (by kernel_rfl) h with ⟨hcs, _⟩ | ⟨y, l, c, zs, hcs, _, hl, hm, hz, hx, hcell, hwz⟩
  · exact ⟨_, _, _, [], hcs, Rd.nil _ _ _, Nat.le_refl _, by omega⟩
  · simp only [if_true] at hz
    have hcap : c ≤ 140737488351232 := by
      have h1 := hs (((lits (H := H) .u8 (zs.take l)).length + (lits (H := H) .u8 (zs.drop l)).length) * Tryd.prog.bytesOf 5) (by rw [hx]; simp [DataW.weights, Tryd.underlying47])
      rw [bytes_one] at h1
      simp [lits, reachBytes] at h1
      omega
    refine ⟨some y, l, c, (zs.take l).map fun n => UInt8.ofNat n.toNat, hcs, ⟨?_, fun hn => ?_⟩, hl, hcap⟩
    · simp [Bs]; omega
    · have hb : y.block < w.heap.size := by
        have := lt_of_cell (hcell 0 (by omega))
        rwa [add_block] at this
      refine ⟨y, rfl, hb, hb, fun j u hu => ?_⟩
      have hj : j < l := by
        have := (List.getElem?_eq_some_iff.1 hu).1
        simp [Bs] at this
        omega
      have hzj : zs[j]? = some (zs.getD j 0) := by rw [List.getD, List.getElem?_eq_getElem (by omega)]; rfl
      rw [hcell j (by omega), ← hu]
      have hr := u8_range (hwz _ (List.mem_of_getElem? hzj))
      rw [Bs_get, List.getElem?_map, List.getElem?_take, if_pos hj, hzj]
      simp only [Option.map_some]
      rw [toNat_low (by omega)]
      congr 2
      omega

theorem fd_bytes : Tryd.prog.bytesOf 63 = 48 := by kernel_rfl
theorem fd_cells : Tryd.prog.cellsOf 63 = 4 := by kernel_rfl

/-- One field that came in. -/
theorem trod_fd {fuel : Nat} {cs : List Value} {x : DataW H × List MemPlace} (h : DataW.trod enc Tryd.prog w base (fun _ => true) held fuel 63 cs = some x) (hs : ∀ n ∈ x.1.weights Tryd.prog 63, n ≤ reachBytes) :
    ∃ (f : Fd) (A : Option Addr) (c : Nat), cs = [.int .i64 f.kind, .int .u64 f.n, .slice A f.b.length c, .int .i64 f.most] ∧ Rd w (fun j => j < w.heap.size) A f.b.length (Bs f.b) ∧ f.b.length ≤ c ∧ c ≤ 140737488351232 ∧
      -9223372036854775808 ≤ f.kind ∧ f.kind ≤ 9223372036854775807 ∧ f.n < 18446744073709551616 ∧ -9223372036854775808 ≤ f.most ∧ f.most ≤ 9223372036854775807 := by
  obtain ⟨xs, m, _, hx, hlen, hxl, hg⟩ := DataW.trod_struct Tryd.underlying63 h
  rw [fd_cells] at hlen
  match cs, hlen with
  | [d0, d1, d2, d3], _ =>
    have hc3 : Tryd.prog.cellsOf 3 = 1 := by kernel_rfl
    have hcu : Tryd.prog.cellsOf 61 = 1 := by kernel_rfl
    have hcb : Tryd.prog.cellsOf 47 = 1 := by kernel_rfl
    have g0 : DataW.trod enc Tryd.prog w base (fun _ => true) held m 3 (([d0, d1, d2, d3].drop 0).take (Tryd.prog.cellsOf 3)) = xs[0]? := hg 0 _ rfl
    have g1 : DataW.trod enc Tryd.prog w base (fun _ => true) held m 61 (([d0, d1, d2, d3].drop 1).take (Tryd.prog.cellsOf 61)) = xs[1]? := hg 1 _ rfl
    have g2 : DataW.trod enc Tryd.prog w base (fun _ => true) held m 47 (([d0, d1, d2, d3].drop 2).take (Tryd.prog.cellsOf 47)) = xs[2]? := hg 2 _ rfl
    have g3 : DataW.trod enc Tryd.prog w base (fun _ => true) held m 3 (([d0, d1, d2, d3].drop 3).take (Tryd.prog.cellsOf 3)) = xs[3]? := hg 3 _ rfl
    simp only [hc3, hcu, hcb, List.drop_zero, List.drop_succ_cons, List.take_succ_cons, List.take_zero] at g0 g1 g2 g3
    have hl4 : xs.length = 4 := hxl
    rw [List.getElem?_eq_getElem (by omega)] at g0 g1 g2 g3
    obtain ⟨k, e0, _, w0⟩ := DataW.trod_int Tryd.underlying3 g0
    obtain ⟨n, e1, _, w1⟩ := DataW.trod_int Tryd.underlying61 g1
    have hs2 : ∀ n ∈ (xs[2]'(by omega)).1.weights Tryd.prog 47, n ≤ reachBytes := fun n hn => by
      refine hs n ?_
      rw [hx]
      simp only [DataW.weights, Tryd.underlying63]
      exact DataW.weights_mem_each (j := 2) (t := 47) rfl (by rw [List.getElem?_map, List.getElem?_eq_getElem (by omega)]; rfl) n hn
    obtain ⟨A, bl, c, b, e2, hrd, hcap, htop⟩ := trod_bytes g2 hs2
    obtain ⟨mo, e3, _, w3⟩ := DataW.trod_int Tryd.underlying3 g3
    injection e0 with e0 _
    injection e1 with e1 _
    injection e2 with e2 _
    injection e3 with e3 _
    subst e0 e1 e2 e3
    have b0 := bounds_i64 w0
    have b1 := bounds_u64 w1
    have b3 := bounds_i64 w3
    have hbl := hrd.len
    subst hbl
    refine ⟨⟨k, n.toNat, b, mo⟩, A, c, ?_, hrd, hcap, htop, b0.1, b0.2, show n.toNat < _ by omega, b3.1, b3.2⟩
    simp only []
    rw [Int.toNat_of_nonneg b1.1]

/-- A slice of fields that came in. -/
theorem trod_fds {fuel : Nat} {cs : List Value} {x : DataW H × List MemPlace} (h : DataW.trod enc Tryd.prog w base (fun _ => true) held fuel 54 cs = some x) (hs : ∀ n ∈ x.1.weights Tryd.prog 54, n ≤ reachBytes) :
    ∃ (a : Option Addr) (n c : Nat) (l : List Fd), cs = [.slice a n c] ∧ n ≤ 140737488351232 ∧ Fds w (fun j => j < w.heap.size) a n l := by
  rcases Go.Deep.open_slice Tryd.underlying54 h with ⟨rfl, _⟩ | ⟨a, len, cap, m, n, D, Pl, rfl, _, hl, hm, hmm, hx0, hi⟩
  · exact ⟨_, _, _, [], rfl, by omega, rfl, by intro i f hf; simp at hf⟩
  · simp only [if_true] at hmm
    have hx : ∀ i, i < len → ∃ x : Fd × Option Addr × Nat, FdAt w (fun j => j < w.heap.size) (a.add (i * 4)) x.1 x.2.1 x.2.2 := by
      intro i hil
      obtain ⟨cs', hc, ht⟩ := hi i (by omega)
      rw [fd_cells] at hc
      obtain ⟨f, A, c, rfl, hrd, hcap, htop, k1, k2, n1, m1, m2⟩ := trod_fd ht fun q hq => hs q (by
        rw [hx0]
        simp only [DataW.weights, Tryd.underlying54]
        refine List.mem_cons_of_mem _ (List.mem_append_left _ (weights_all (d := D i) ?_ q hq))
        exact List.mem_map.2 ⟨i, List.mem_range.2 hil, rfl⟩)
      obtain ⟨_, _, hat⟩ := World.cells?_some hc
      have hb : a.block < w.heap.size := by
        have := lt_of_cell (hat 0 (by omega))
        rwa [add_block, add_block] at this
      exact ⟨⟨f, A, c⟩, hat 0 (by omega), hat 1 (by omega), hat 2 (by omega), hat 3 (by omega), hrd, hcap, htop, by rw [add_block]; exact hb, by rw [add_block]; exact hb, k1, k2, n1, m1, m2⟩
    have : Inhabited (Fd × Option Addr × Nat) := ⟨⟨⟨0, 0, [], 0⟩, none, 0⟩⟩
    obtain ⟨g, hg⟩ := Go.Deep.choose_lt hx
    refine ⟨some a, len, cap, (List.range len).map fun i => (g i).1, rfl, ?_, by simp, fun i f hf => ?_⟩
    · have h1 := hs ((((List.range len).map D).length + ((List.range (m - len)).map fun j => D (len + j)).length) * Tryd.prog.bytesOf 63) (by rw [hx0]; simp [DataW.weights, Tryd.underlying54])
      rw [fd_bytes] at h1
      simp [reachBytes] at h1
      omega
    rw [List.getElem?_map] at hf
    by_cases hil : i < len
    · rw [List.getElem?_range hil] at hf
      simp only [Option.map_some] at hf
      obtain rfl := Option.some.inj hf
      exact ⟨a, _, _, rfl, hg i hil⟩
    · rw [List.getElem?_eq_none (by simpa using hil)] at hf
      cases hf
end

end Go.Proofs.YtaekepejeokciaaDoor
