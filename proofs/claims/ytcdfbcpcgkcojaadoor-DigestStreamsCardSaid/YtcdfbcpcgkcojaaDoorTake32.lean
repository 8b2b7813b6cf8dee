/- Bytes go into a sum, one behind the other. -/
import Derived.Test.YtcdfbcpcgkcojaaDoorPut32
namespace Go.Proofs.YtcdfbcpcgkcojaaDoor
set_option maxRecDepth 100000
open Go.RowKit

/-- Words, block, how many bytes: behind some bytes more. -/
def fed32 (t : S8x32 × List Nat × Nat) (xs : List Nat) : S8x32 × List Nat × Nat :=
  xs.foldl (fun t c => (now32 t.1 t.2.1 t.2.2 c, blk32 t.2.1 t.2.2 c, t.2.2 + 1)) t
theorem fed32_snoc (t : S8x32 × List Nat × Nat) (xs : List Nat) (c : Nat) : fed32 t (xs ++ [c]) = (now32 (fed32 t xs).1 (fed32 t xs).2.1 (fed32 t xs).2.2 c, blk32 (fed32 t xs).2.1 (fed32 t xs).2.2 c, (fed32 t xs).2.2 + 1) := by
  simp [fed32, List.foldl_append]
theorem fed32_append (t : S8x32 × List Nat × Nat) (xs ys : List Nat) : fed32 t (xs ++ ys) = fed32 (fed32 t xs) ys := by
  simp [fed32, List.foldl_append]
theorem now32_ok {s : S8x32} (h : s.ok) (b : List Nat) (n c : Nat) : (now32 s b n c).ok := by
  unfold now32
  split
  · exact mxs32_ok _ _
  · exact h
/-- What holds of such a state. -/
structure Gd32 (t : S8x32 × List Nat × Nat) : Prop where
  ok : t.1.ok
  len : t.2.1.length = 16
  lt : ∀ x ∈ t.2.1, x < 4294967296
theorem Gd32.next {t : S8x32 × List Nat × Nat} (h : Gd32 t) {c : Nat} (hc : c < 256) : Gd32 (now32 t.1 t.2.1 t.2.2 c, blk32 t.2.1 t.2.2 c, t.2.2 + 1) :=
  ⟨now32_ok h.ok _ _ _, (blk32_len _ _ _).trans h.len, blk32_lt h.lt _ hc⟩
theorem Gd32.fed : ∀ {xs : List Nat} {t : S8x32 × List Nat × Nat}, Gd32 t → (∀ x ∈ xs, x < 256) → Gd32 (fed32 t xs)
  | [], _, h, _ => h
  | c :: xs, _, h, hx => Gd32.fed (xs := xs) (h.next (hx c (List.mem_cons_self ..))) (fun x hm => hx x (List.mem_cons_of_mem _ hm))
theorem fed32_size : ∀ (xs : List Nat) (t : S8x32 × List Nat × Nat), (fed32 t xs).2.2 = t.2.2 + xs.length
  | [], t => rfl
  | c :: xs, t => by
    have := fed32_size xs (now32 t.1 t.2.1 t.2.2 c, blk32 t.2.1 t.2.2 c, t.2.2 + 1)
    simp only [List.length_cons]
    rw [show fed32 t (c :: xs) = fed32 (now32 t.1 t.2.1 t.2.2 c, blk32 t.2.1 t.2.2 c, t.2.2 + 1) xs from rfl, this]
    show t.2.2 + 1 + xs.length = _
    omega

set_option maxHeartbeats 800000 in
theorem take32 (t : S8x32 × List Nat × Nat) (xs : List Nat) (a : Option Addr) (n cap : Nat) (T : TypeId) (g : Nat) (w : World) (hx : ∀ x ∈ xs, x < 256) (ht : Gd32 t) (hk : Ks32 w) (hs : Tb32 w g T t.1.list t.2.1 (t.2.2 : Int)) (hn : t.2.2 + xs.length < 4611686018427387904) (hg : g ≠ 2)
    (hr : Rd w (fun k => k ≠ g) a n (xs.map fun x => .int .u8 ((x : Nat) : Int))) :
    Calls Tryd.prog 30 #[.pointer (some ⟨g, 0, none⟩), .slice a n cap] w fun e w' => e = .returned (.tuple #[]) ∧ Tb32 w' g T (fed32 t xs).1.list (fed32 t xs).2.1 ((fed32 t xs).2.2 : Int) ∧ Only (· = g) w w' := by
  have hl : xs.length = n := by have := hr.1; simpa using this
  have HX := Lib.hid hx
  have HT := Lib.hid ht
  have HK := Lib.hid hk
  have HS := Lib.hid hs
  have HN := Lib.hid hn
  have HG := Lib.hid hg
  have HR := Lib.hid hr
  have HL := Lib.hid hl
  clear hx ht hk hs hn hg hr hl
  go_enter Tryd.func30, Tryd.ntmps30
  go_wp2_with fail
  go_loopw [8] (fun i wr => ∃ k : Nat, k ≤ n ∧ i = .int .i64 k ∧ Tb32 wr g T (fed32 t (xs.take k)).1.list (fed32 t (xs.take k)).2.1 ((fed32 t (xs.take k)).2.2 : Int) ∧ Only (· = g) w wr) (fun i _ => n - (intOf i).toNat)
  case atStart => exact ⟨0, Nat.zero_le _, rfl, HS.out, Only.refl _ _⟩
  case round =>
    obtain ⟨k, hkn, rfl, hat, hon⟩ := hrel
    by_cases hlt : k < n
    · obtain ⟨ad, e, hF, hB, hC⟩ := HR.out.2 (by omega)
      have hc := hC k (.int .u8 ((xs.getD k 0 : Nat) : Int)) (by rw [List.getElem?_map, List.getD, List.getElem?_eq_getElem (by rw [HL.out]; exact hlt)]; rfl)
      have hc2 := (hon.cell (a := ad.add k) (by rw [add_block]; exact hF) (by rw [add_block]; exact hB)).trans hc
      have hlen : k < xs.length := by rw [HL.out]; exact hlt
      have h256 : xs.getD k 0 < 256 := by rw [List.getD, List.getElem?_eq_getElem hlen]; exact HX.out _ (List.getElem_mem _)
      have hup : fed32 t (xs.take (k + 1)) = (now32 (fed32 t (xs.take k)).1 (fed32 t (xs.take k)).2.1 (fed32 t (xs.take k)).2.2 (xs.getD k 0), blk32 (fed32 t (xs.take k)).2.1 (fed32 t (xs.take k)).2.2 (xs.getD k 0), (fed32 t (xs.take k)).2.2 + 1) := by
        rw [← fed32_snoc, List.take_add_one, List.getD, List.getElem?_eq_getElem hlen]; rfl
      have hgd : Gd32 (fed32 t (xs.take k)) := HT.out.fed (fun x h => HX.out x (List.mem_of_mem_take h))
      have hsz : (fed32 t (xs.take k)).2.2 < 4611686018427387904 := by rw [fed32_size, List.length_take]; have := HN.out; omega
      generalize xs.getD k 0 = c at *
      generalize fed32 t (xs.take k) = u at *
      have hp := put32 u.1 u.2.1 u.2.2 c T g _ hgd.ok hgd.len hgd.lt (by have := HK.out; unfold Ks32 at this ⊢; rw [hon.block 2 HK.out.lt (fun e => HG.out e.symm)]; exact this) hat hsz h256 HG.out
      have HP := Lib.hid hp
      have HON := Lib.hid hon
      have HUP := Lib.hid hup
      subst e
      clear hp hon hup hat hgd hsz hC hc hF hB h256 hlen
      go_wp2_with fail
      refine HP.out.mono ?_
      rintro e w4 ⟨rfl, h4, o4⟩
      have H4 := Lib.hid h4
      have O4 := Lib.hid o4
      clear h4 o4
      have sk : IntKind.i64.wrap ((k : Int) + 1) = (k : Int) + 1 := by first | exact IntWalk.i64_in _ (by have := HN.out; have := HL.out; omega)
      go_wp2_with fail
      go_roundw
      case rel =>
        refine ⟨k + 1, by omega, by go_num, ?_, HON.out.trans O4.out (fun _ _ h => h)⟩
        rw [HUP.out]
        exact H4.out
      case measure => simp [intOf]; omega
    · have hie : k = n := by omega
      subst hie
      have hfin : xs.take k = xs := List.take_of_length_le (by rw [HL.out]; exact Nat.le_refl _)
      rw [hfin] at hat
      have HAT := Lib.hid hat
      have HON := Lib.hid hon
      clear hat hon hfin
      go_wp2_with fail
      go_end0
      exact ⟨rfl, HAT.out, HON.out⟩

end Go.Proofs.YtcdfbcpcgkcojaaDoor
