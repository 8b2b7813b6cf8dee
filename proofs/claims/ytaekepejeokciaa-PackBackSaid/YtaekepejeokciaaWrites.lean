/- For any fields: the law PackWrites returns true, and nothing that was there is changed. -/
import Derived.Test.YtaekepejeokciaaGreat
namespace Go.Proofs.Ytaekepejeokciaa
open Go.RowKit

/-- What the first fields are written as. -/
def wout (l : List Fd) (j : Nat) : List UInt8 := (l.take j).flatMap fenc
theorem wout_succ {l : List Fd} {j : Nat} {f : Fd} (h : l[j]? = some f) : wout l (j + 1) = wout l j ++ fenc f := by
  unfold wout
  rw [List.take_add_one, h]
  simp

structure WInv (B : Nat) (w wr : World) (l : List Fd) (j : Nat) (v u : Value) : Prop where
  wri : Wr wr ⟨B, 0, none⟩ v (wout l j)
  row : wr.ownsRow 0 5 1 u (wout l j).length (Bs (wout l j))
  below : Below B w wr
  lo : ∀ k, v.ownBlock = some k → B < k
  lo2 : ∀ k, u.ownBlock = some k → B < k
  ne : ∀ k, u.ownBlock = some k → v.ownBlock ≠ some k

theorem wout_le {l : List Fd} (hl : ∀ f, f ∈ l → f.n < 18446744073709551616) (hb : ∀ f, f ∈ l → f.b.length < 18446744073709551616) : ∀ j, (wout l j).length + l.length ≤ part l j + 10 * l.length := by
  intro j
  unfold wout part
  have h1 : ∀ (m : List Fd), (∀ f, f ∈ m → f ∈ l) → (m.flatMap fenc).length ≤ (m.map fun f => f.b.length).sum + 10 * m.length := by
    intro m
    induction m with
    | nil => intro _; simp
    | cons f m ih =>
      intro hm
      have h2 := fenc_length (hl f (hm f (by simp))) (hb f (hm f (by simp)))
      have h3 := ih fun g hg => hm g (by simp [hg])
      simp only [List.flatMap_cons, List.length_append, List.map_cons, List.sum_cons, List.length_cons]
      omega
  have h2 := h1 (l.take j) fun f hf => List.mem_of_mem_take hf
  have h3 : (l.take j).length ≤ l.length := by simp; omega
  omega

theorem WInv.row2 {B : Nat} {w wr w2 : World} {l : List Fd} {j : Nat} {v u v' : Value} {x : List UInt8} (h : WInv B w wr l j v u) (hw : Wrote wr w2 ⟨B, 0, none⟩ v v' x) :
    w2.ownsRow 0 5 1 u (wout l j).length (Bs (wout l j)) :=
  own_only h.row hw.only fun k hk hs => by
    have := h.lo2 k hk
    rcases hs with hs | hs
    · have hs' : k = B := hs
      omega
    · exact h.ne k hk hs

theorem WInv.step {B : Nat} {w wr w2 w3 : World} {l : List Fd} {j : Nat} {v u v' u' : Value} {f : Fd} (h : WInv B w wr l j v u) (hf : l[j]? = some f) (hB : B < wr.heap.size)
    (hw : Wrote wr w2 ⟨B, 0, none⟩ v v' (wout l j ++ fenc f)) (ho : w3.ownsRow 0 5 1 u' ((wout l j).length + (fenc f).length) (Bs (wout l j) ++ Bs (fenc f)))
    (hg : w2.grownBy w3 u.ownBlock) (hat : u'.ownBlock = u.ownBlock ∨ u'.ownBlock = some w2.heap.size) : WInv B w w3 l (j + 1) v' u' := by
  have hs := hw.only.size
  have hlo : ∀ k, v'.ownBlock = some k → B < k := fun k hk => by
    rcases hw.rows k hk with h1 | h1
    · exact h.lo k h1
    · omega
  have hne : ∀ k, u.ownBlock = some k → v'.ownBlock ≠ some k := fun k hk hv => by
    rcases hw.rows k hv with h1 | h1
    · exact h.ne k hk h1
    · have := (h.row.lt k hk).2; omega
  have hgo : Only (fun k => u.ownBlock = some k) w2 w3 := (Only.refl _ _).grown hg fun k hk => .inl hk
  refine ⟨?_, ?_, ?_, hlo, ?_, ?_⟩
  · rw [wout_succ hf]
    refine hw.wr.only hgo (fun e => ?_) (fun k hk e => hne k e hk)
    have := h.lo2 _ e
    exact absurd this (Nat.lt_irrefl _)
  · rw [wout_succ hf, Bs_append, List.length_append]
    exact ho
  · refine (h.below.trans (hw.only.below (by omega) fun k hk => ?_)).grown hg (by omega) fun k hk => ?_
    · rcases hk with hk | hk
      · exact Nat.le_of_eq hk.symm
      · exact Nat.le_of_lt (h.lo k hk)
    · exact Nat.le_of_lt (h.lo2 k hk)
  · intro k hk
    rcases hat with e | e
    · rw [e] at hk; exact h.lo2 k hk
    · rw [e] at hk; injection hk with hk; omega
  · intro k hk hv
    rcases hat with e | e
    · rw [e] at hk; exact hne k hk hv
    · rw [e] at hk; injection hk with hk
      have := hw.wr.rowlt k hv
      omega

set_option maxHeartbeats 800000 in
theorem packwrites_small (a : Option Addr) (n c : Nat) (l : List Fd) (w : World) (h : Fds w (fun j => j < w.heap.size) a n l) (hn : n ≤ 140737488351232) (ht : tot l ≤ 400) :
    Calls Try.prog 3 #[.slice a n c] w fun e w' => e = .returned (.bool true) ∧ Below w.heap.size w w' := by
  have hd : decide (400 < tot l) = false := by simp; omega
  have hln : l.length ≤ 400 := by unfold tot at ht; omega
  have hwl : ∀ j, (wout l j).length ≤ 4400 := fun j => by
    have h1 := wout_le (l := l) (fun f hf => by
      obtain ⟨i, hi⟩ := List.mem_iff_getElem?.1 hf
      obtain ⟨ad, A, c, _, hx⟩ := h.2 i f hi
      exact hx.n1) (fun f hf => by
      obtain ⟨i, hi⟩ := List.mem_iff_getElem?.1 hf
      obtain ⟨ad, A, c, _, hx⟩ := h.2 i f hi
      have := hx.cap; have := hx.top; omega) j
    have h2 := part_le l j
    omega
  have HD := Lib.hid hd
  have HL := Lib.hid h.1
  have H := Lib.hid h
  have HWL := Lib.hid hwl
  clear h hd hwl
  obtain ⟨i0, hi, hz0, hz1, hz2⟩ := info_parts u8_info
  go_enter Try.func3, Try.ntmps3
  go_wp2_with fail
  refine (great_any a n c l _ _ H.out hn).mono ?_
  rintro e w' ⟨rfl, rfl⟩
  rw [HD.out]
  go_wp2_with fail
  go_loopw [4, 5] (fun s i wr => ∃ (j : Nat) (v : Value), j ≤ n ∧ i = .int .i64 j ∧ WInv w.heap.size w wr l j v s) (fun _ i _ => n - (intOf i).toNat)
  case atStart =>
    refine ⟨0, .slice none 0 0, Nat.zero_le _, rfl, Wr.new w, World.ownsRow_nil _ _ _ _, (Below.refl _ _).alloc (Nat.le_refl _) _, ?_, ?_, ?_⟩ <;> intro k hk <;> simp [Value.ownBlock] at hk
  case round =>
    obtain ⟨j, v, hj, rfl, hinv⟩ := hrel
    have HI := Lib.hid hinv
    clear hinv
    by_cases hlt : j < n
    · obtain ⟨f, ad, A, c', hf, rfl, hfd⟩ := H.out.at_ hlt
      have hj' : (wout l j).length ≤ 4400 := HWL.out j
      have hx := (hfd.below HI.out.below).cells
      obtain ⟨k0, k1, k2, k3⟩ := hx
      have HF := Lib.hid hf
      have hb : f.b.length ≤ 400 := by
        have h1 := part_succ hf
        have h2 := part_le l (j + 1)
        omega
      have hn1 := hfd.n1
      have HR := Lib.hid ((hfd.below HI.out.below).rd)
      have HV := Lib.hid (fun k (hk : v.ownBlock = some k) => Nat.le_of_lt (HI.out.lo k hk))
      have HBS := Lib.hid HI.out.wri.lt
      clear hf hfd
      go_wp2_with fail
      refine (writes_any ⟨w.heap.size, 0, none⟩ v (wout l j) f A c' w.heap.size _ HI.out.wri (by omega) hn1 HR.out (Nat.le_refl _) HV.out).mono ?_
      rintro e w2 ⟨A2, c2, v2, rfl, hrd, hwr⟩
      have HRD := Lib.hid hrd
      have HWR := Lib.hid hwr
      have HROW := Lib.hid (HI.out.row2 hwr)
      have hfl : (fenc f).length ≤ 410 := by
        have := fenc_length hn1 (by omega : f.b.length < 18446744073709551616)
        omega
      clear hrd hwr
      go_wp2_with (at_builtin; refine wpList_append_rd _ rfl (.tmp 15) (.tmp 20) 25 rfl 0 5 i0 (.int .u8 0) 1 Try.underlying25 hi hz0 hz1 hz2 rfl u4 (wout l j).length (Bs (wout l j)) rfl HROW.out _ A2 (fenc f).length c2 (Bs (fenc f)) rfl HRD.out (Bs_one _) ?c1 ?c2 ?c3 ?_)
      case c1 => unfold maxLen; omega
      case c2 => omega
      case c3 => omega
      intro u' w3 hown hg hat
      have HSTEP := Lib.hid (HI.out.step HF.out HBS.out HWR.out hown hg hat)
      clear hown hg hat
      go_wp2_with fail
      go_roundw
      case rel => exact ⟨j + 1, v2, by omega, by go_num, HSTEP.out⟩
      case measure => simp [intOf]; omega
    · have hjn : j = n := by omega
      have HJ := Lib.hid hjn
      have hj' : (wout l j).length ≤ 4400 := HWL.out j
      have HV := Lib.hid (fun k (hk : v.ownBlock = some k) => Nat.le_of_lt (HI.out.lo k hk))
      have HBS := Lib.hid HI.out.wri.lt
      obtain ⟨A4, c4, rfl⟩ := own_slice HI.out.row
      clear hjn
      go_wp2_with fail
      refine (out_any ⟨w.heap.size, 0, none⟩ v (wout l j) _ HI.out.wri (by omega)).mono ?_
      rintro e w5 ⟨v5, rfl, hown, hb5⟩
      obtain ⟨A5, c5, rfl⟩ := own_slice hown
      have HO := Lib.hid hown
      have HB5 := Lib.hid hb5
      clear hown hb5
      go_wp2_with fail
      refine (bytes_any A5 A4 _ _ c5 c4 (wout l j) (wout l j) _ _ _ (by unfold maxLen; omega) (Rd.of_own HO.out) ((Rd.of_own HI.out.row).belowAll HB5.out)).mono ?_
      rintro e w6 ⟨rfl, q6, rfl⟩
      have hdec : decide (wout l j = wout l j) = true := by simp
      rw [hdec]
      go_wp2_with fail
      refine (awake_any _).mono ?_
      rintro e w' ⟨rfl, hb⟩
      go_wp2_with fail
      go_ret
      have h5 : Below w.heap.size w w5 := HI.out.below.trans (HB5.out.mono (Nat.le_of_lt HBS.out))
      exact ⟨rfl, (below_drewN h5 q6).trans (hb.mono h5.size)⟩

set_option maxHeartbeats 400000 in
theorem packwrites_great (a : Option Addr) (n c : Nat) (l : List Fd) (w : World) (h : Fds w (fun j => j < w.heap.size) a n l) (hn : n ≤ 140737488351232) (ht : 400 < tot l) :
    Calls Try.prog 3 #[.slice a n c] w fun e w' => e = .returned (.bool true) ∧ Below w.heap.size w w' := by
  have HD := Lib.hid (decide_eq_true ht)
  have H := Lib.hid h
  clear h ht
  go_enter Try.func3, Try.ntmps3
  go_wp2_with fail
  refine (great_any a n c l _ _ H.out hn).mono ?_
  rintro e w' ⟨rfl, rfl⟩
  rw [HD.out]
  go_wp2_with fail
  refine (awake_any _).mono ?_
  rintro e w' ⟨rfl, hb⟩
  go_wp2_with fail
  go_ret
  exact ⟨rfl, hb⟩

end Go.Proofs.Ytaekepejeokciaa
