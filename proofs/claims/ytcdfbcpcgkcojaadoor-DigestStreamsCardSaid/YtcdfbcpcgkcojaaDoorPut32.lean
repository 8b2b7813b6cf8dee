/- How many bytes a block has that isn't full yet; one byte more. -/
import Derived.Test.YtcdfbcpcgkcojaaDoorMix32
namespace Go.Proofs.YtcdfbcpcgkcojaaDoor
set_option maxRecDepth 100000
open Go.RowKit

theorem Tb32.size {w : World} {g : Nat} {T : TypeId} {l b : List Nat} {n : Int} (h : Tb32 w g T l b n) (hl : l.length = 8) (hb : b.length = 16) : w.cell? ⟨g, 24, none⟩ = some (.int .i64 n) := by
  have e : (Us32 (l ++ b)).length = 24 := by rw [Us32_length, List.length_append, hl, hb]
  rw [cell_of_row w g 24 _ _ _ h, List.getElem?_toArray, List.getElem?_append_right (by omega), e]
  rfl

set_option maxHeartbeats 400000 in
theorem filled32 (l b : List Nat) (n : Nat) (T : TypeId) (g : Nat) (w : World) (ht : Tb32 w g T l b n) (hl : l.length = 8) (hb : b.length = 16) :
    Calls Tryd.prog 45 #[.pointer (some ⟨g, 0, none⟩)] w fun e w' => e = .returned (.int .i64 ((n % 64 : Nat) : Int)) ∧ ∃ q, w' = w.drewN q := by
  have c := ht.size hl hb
  have hr : Int.tmod (n : Int) 64 = ((n % 64 : Nat) : Int) := by rw [Int.tmod_eq_emod_of_nonneg (by omega)]; omega
  have HR := Lib.hid hr
  clear ht hl hb hr
  go_enter Tryd.func45, Tryd.ntmps45
  go_upto_region 1 with fail
  go_quiet ((go_at_call 44; exact Calls.quiet_of_same (bytes32 _)))
  go_wp2_with fail
  go_ret
  refine ⟨?_, _, rfl⟩
  first
    | rfl
    | (rw [← HR.out])
    | trace_state

/-- The state behind a block, as words. -/
def mxs32 (s : S8x32) (b : List Nat) : S8x32 :=
  let t := gone32 s b 64
  ⟨(s.a + t.a) % 4294967296, (s.b + t.b) % 4294967296, (s.c + t.c) % 4294967296, (s.d + t.d) % 4294967296, (s.e + t.e) % 4294967296, (s.f + t.f) % 4294967296, (s.g + t.g) % 4294967296, (s.h + t.h) % 4294967296⟩
theorem mxs32_list (s : S8x32) (b : List Nat) : (mxs32 s b).list = mxd32 s b := by
  unfold mxs32 mxd32
  generalize gone32 s b 64 = t
  rfl
theorem mxs32_ok (s : S8x32) (b : List Nat) : (mxs32 s b).ok := ⟨Nat.mod_lt _ (by decide), Nat.mod_lt _ (by decide), Nat.mod_lt _ (by decide), Nat.mod_lt _ (by decide), Nat.mod_lt _ (by decide), Nat.mod_lt _ (by decide), Nat.mod_lt _ (by decide), Nat.mod_lt _ (by decide)⟩
/-- The block behind one byte more; the words of the sum. -/
def blk32 (b : List Nat) (n c : Nat) : List Nat := b.set (n / 4 % 16) (b.getD (n / 4 % 16) 0 * 256 % 4294967296 ||| c)
def now32 (s : S8x32) (b : List Nat) (n c : Nat) : S8x32 := if (n + 1) % 64 = 0 then mxs32 s (blk32 b n c) else s
theorem blk32_len (b : List Nat) (n c : Nat) : (blk32 b n c).length = b.length := List.length_set
theorem ors32 (x c : Nat) (hc : c < 256) : bits .or .u32 (((x * 256 % 4294967296 : Nat)) : Int) (c : Int) = ((x * 256 % 4294967296 ||| c : Nat) : Int) := u32_or_nat _ _ (Nat.mod_lt _ (by decide)) (by omega)
theorem blk32_lt {b : List Nat} (h : ∀ x ∈ b, x < 4294967296) (n : Nat) {c : Nat} (hc : c < 256) : ∀ x ∈ blk32 b n c, x < 4294967296 := by
  intro x hx
  rcases List.mem_or_eq_of_mem_set hx with h' | h'
  · exact h x h'
  · rw [h']
    exact Nat.or_lt_two_pow (n := 32) (Nat.mod_lt _ (by decide)) (by omega)
theorem Tb32.word {w : World} {g : Nat} {T : TypeId} {l b : List Nat} {n : Int} (h : Tb32 w g T l b n) (hl : l.length = 8) {k : Nat} (hk : k < b.length) : w.cell? ⟨g, 8 + k, none⟩ = some (.int .u32 ((b.getD k 0 : Nat) : Int)) := by
  have := h.block k (.int .u32 ((b.getD k 0 : Nat) : Int)) (by rw [Us32_get, List.getD, List.getElem?_eq_getElem hk]; rfl)
  rw [hl] at this
  exact this
theorem Tb32.setWord {w : World} {g : Nat} {T : TypeId} {l b : List Nat} {n : Int} (h : Tb32 w g T l b n) (hl : l.length = 8) {k : Nat} (hk : k < b.length) (x : Nat) : Tb32 (w.setCell ⟨g, 8 + k, none⟩ (.int .u32 ((x : Nat) : Int))) g T l (b.set k x) n := by
  unfold Tb32 at h ⊢
  rw [heap_setCell_same w g _ _ _ _ h]
  congr 2
  have h1 : 8 + k < (Us32 (l ++ b)).length := by rw [Us32_length, List.length_append, hl]; omega
  have h2 : (Us32 l).length ≤ 8 + k := by rw [Us32_length, hl]; omega
  rw [List.setIfInBounds_toArray, List.set_append_left _ _ h1, Us32_append, Us32_append, List.set_append_right _ _ h2, Us32_length, hl, Nat.add_sub_cancel_left]
  simp [Us32, List.map_set]
theorem Tb32.setSize {w : World} {g : Nat} {T : TypeId} {l b : List Nat} {n : Int} (h : Tb32 w g T l b n) (hl : l.length = 8) (hb : b.length = 16) (m : Int) : Tb32 (w.setCell ⟨g, 24, none⟩ (.int .i64 m)) g T l b m := by
  unfold Tb32 at h ⊢
  rw [heap_setCell_same w g _ _ _ _ h]
  congr 2
  have h2 : (Us32 (l ++ b)).length = 24 := by rw [Us32_length, List.length_append, hl, hb]
  rw [List.setIfInBounds_toArray, List.set_append_right _ _ (by omega), h2]
  rfl

set_option maxHeartbeats 800000 in
theorem put32 (s : S8x32) (b : List Nat) (n c : Nat) (T : TypeId) (g : Nat) (w : World) (ho : s.ok) (hb : b.length = 16) (hm : ∀ x ∈ b, x < 4294967296) (hk : Ks32 w) (ht : Tb32 w g T s.list b n) (hn : n < 4611686018427387904) (hc : c < 256) (hg : g ≠ 2) :
    Calls Tryd.prog 43 #[.pointer (some ⟨g, 0, none⟩), .int .u8 c] w fun e w' => e = .returned (.tuple #[]) ∧ Tb32 w' g T (now32 s b n c).list (blk32 b n c) ((n + 1 : Nat) : Int) ∧ Only (· = g) w w' := by
  have HO := Lib.hid ho
  have HB := Lib.hid hb
  have HM := Lib.hid hm
  have HK := Lib.hid hk
  have HT := Lib.hid ht
  have HG := Lib.hid hg
  have HN := Lib.hid hn
  have c0 := ht.size (by rfl) hb
  have hi : n / 4 % 16 < 16 := Nat.mod_lt _ (by decide)
  have hr : Int.tmod (Int.tdiv (n : Int) 4) 16 = ((n / 4 % 16 : Nat) : Int) := by
    rw [Int.tdiv_eq_ediv_of_nonneg (by omega), Int.tmod_eq_emod_of_nonneg (by omega)]
    omega
  have HR := Lib.hid hr
  clear ho hb hm hk ht hg hr hn
  go_enter Tryd.func43, Tryd.ntmps43
  go_upto_region 0 with fail
  go_cut [4] from 5 to 11 (fun v wx => v = .int .i64 ((n / 4 % 16 : Nat) : Int) ∧ ∃ q, wx = w.drewN q)
  case first =>
    go_quiet ((go_at_call 44; exact Calls.quiet_of_same (bytes32 _)))
    go_step
    go_step
    go_meet
    refine ⟨?_, _, rfl⟩
    first
      | rfl
      | (rw [← HR.out]; done)
      | (have h64 : wrap64 ((n : Int) / 4) = (n : Int) / 4 := by have := HN.out; unfold wrap64; omega
         rw [h64, ← HR.out, Int.tdiv_eq_ediv_of_nonneg (by omega)])
  case rest =>
    obtain ⟨rfl, q, rfl⟩ := hcut
    have k1 := Tb32.word (w := w) HT.out rfl (k := n / 4 % 16) (by rw [HB.out]; exact hi)
    have st := fun x => Tb32.setWord (w := w.drewN (q + 1)) HT.out rfl (k := n / 4 % 16) (by rw [HB.out]; exact hi) x
    have kf := Tb32.free (w := w) HT.out (8 + n / 4 % 16)
    have hbk : blk32 b n c = b.set (n / 4 % 16) (b.getD (n / 4 % 16) 0 * 256 % 4294967296 ||| c) := rfl
    have HBK := Lib.hid hbk
    have ST := Lib.hid st
    clear st c0 hbk
    generalize n / 4 % 16 = i at *
    generalize b.getD i 0 = x at *
    have bi : (i : Int) < 16 := by omega
    have b0 : (0 : Int) ≤ (i : Int) := by omega
    go_upto_region 1 with fail
    go_cut [4] from 5 to 26 (fun _ wx => Tb32 wx g T s.list (blk32 b n c) n ∧ Only (· = g) w wx)
    case first =>
      go_region
      go_step
      go_step
      go_meet
      have e0 : (x : Int) * 256 % 4294967296 = ((x * 256 % 4294967296 : Nat) : Int) := by omega
      have e1 : IntKind.u32.wrap ((x : Int) * 256) = ((x * 256 % 4294967296 : Nat) : Int) := by rw [show (x : Int) * 256 = ((x * 256 : Nat) : Int) by omega, wrap32_nat]
      refine ⟨?_, ((Only.refl (· = g) _).drewN _).setCell (.inl rfl) _⟩
      rw [HBK.out]
      first
        | rw [e0, ors32 x c hc]
        | rw [e1, ors32 x c hc]
      exact ST.out _
    case rest =>
      obtain ⟨hat, hon⟩ := hcut
      have hlb : (blk32 b n c).length = 16 := by rw [blk32_len]; exact HB.out
      have k2 := hat.size rfl hlb
      have kf2 := hat.free 24
      have st2 := hat.setSize rfl hlb ((n : Int) + 1)
      have hks : Ks32 wc := by
        have := HK.out
        unfold Ks32 at this ⊢
        rw [hon.block 2 HK.out.lt (fun e => HG.out e.symm)]
        exact this
      have HKS := Lib.hid hks
      have HLB := Lib.hid hlb
      have ST2 := Lib.hid st2
      have HON := Lib.hid hon
      clear hat hon hlb st2 hks k1 kf
      have sn : IntKind.i64.wrap ((n : Int) + 1) = (n : Int) + 1 := IntWalk.i64_in _ (by have := HN.out; omega)
      have hat3 : Tb32 (wc.setCell ⟨g, 24, none⟩ (.int .i64 ((n : Int) + 1))) g T s.list (blk32 b n c) ((n + 1 : Nat) : Int) := by
        rw [show ((n + 1 : Nat) : Int) = (n : Int) + 1 by omega]
        exact ST2.out
      have hon3 : Only (· = g) w (wc.setCell ⟨g, 24, none⟩ (.int .i64 ((n : Int) + 1))) := HON.out.setCell (.inl rfl) _
      have hks3 : Ks32 (wc.setCell ⟨g, 24, none⟩ (.int .i64 ((n : Int) + 1))) := by
        have := HK.out
        unfold Ks32 at this ⊢
        rw [hon3.block 2 HK.out.lt (fun e => HG.out e.symm)]
        exact this
      have hf : Calls Tryd.prog 45 #[.pointer (some ⟨g, 0, none⟩)] (wc.setCell ⟨g, 24, none⟩ (.int .i64 ((n : Int) + 1))) fun e w' => e = .returned (.int .i64 (((n + 1) % 64 : Nat) : Int)) ∧ ∃ q, w' = (wc.setCell ⟨g, 24, none⟩ (.int .i64 ((n : Int) + 1))).drewN q := filled32 s.list (blk32 b n c) (n + 1) T g _ hat3 rfl HLB.out
      generalize hmm : (n + 1) % 64 = m at *
      have HF := Lib.hid hf
      have HAT3 := Lib.hid hat3
      have HON3 := Lib.hid hon3
      have HKS3 := Lib.hid hks3
      have H4294967296 := Lib.hid hmm
      clear hf hat3 hon3 hks3 hmm
      go_upto_region 3 with fail
      go_wp2_with fail
      refine HF.out.mono ?_
      rintro e w4 ⟨rfl, q4, rfl⟩
      by_cases hz : m = 0
      · subst hz
        go_wp2_with fail
        refine (mix32 s (blk32 b n c) ((n + 1 : Nat) : Int) T g _ HO.out HLB.out (blk32_lt HM.out n hc) (by exact HKS3.out) (by exact HAT3.out)).mono ?_
        rintro e w5 ⟨rfl, h5, o5⟩
        go_wp2_with fail
        go_end0
        exact ⟨rfl, by unfold now32; rw [if_pos H4294967296.out, mxs32_list]; exact h5, (HON3.out.drewN q4).trans o5 (fun _ _ h => h)⟩
      · have hz1 : ¬ (m : Int) = 0 := by omega
        go_wp2_with fail
        go_end0
        exact ⟨rfl, by unfold now32; rw [if_neg (by rw [H4294967296.out]; exact hz)]; exact HAT3.out, HON3.out.drewN q4⟩

end Go.Proofs.YtcdfbcpcgkcojaaDoor
