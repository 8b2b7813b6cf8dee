import Derived.Test.YtnpjecdodhkplaaGreatDoorTE
namespace Go.Proofs.YtnpjecdodhkplaaGreatDoor
set_option maxRecDepth 100000
open Go.RowKit
open List renaming setIfInBounds_toArray → yA, set_cons_zero → yB, set_cons_succ → yC
open Lib renaming hid → yH
theorem lnget64 (n k m : Nat) (h : k + (m + 1) = 16) : (ln64 n).getD k 0 = if 8 ≤ m then 0 else n * 8 / 2 ^ (8 * m) % 256 := by
 have hk : k < 16 := by omega
 obtain rfl : m = 16 - 1 - k := by omega
 match k, hk with
 | 0, _ => rfl
 | 1, _ => rfl
 | 2, _ => rfl
 | 3, _ => rfl
 | 4, _ => rfl
 | 5, _ => rfl
 | 6, _ => rfl
 | 7, _ => rfl
 | 8, _ => rfl
 | 9, _ => rfl
 | 10, _ => rfl
 | 11, _ => rfl
 | 12, _ => rfl
 | 13, _ => rfl
 | 14, _ => rfl
 | 15, _ => rfl
 | _ + 16, h => omega
def cur64 (xs : List Nat) (pd n k : Nat) : List Nat := xs ++ 128 :: List.replicate pd 0 ++ (ln64 n).take k
theorem cur64_zero (xs : List Nat) (pd n : Nat) : cur64 xs pd n 0 = xs ++ 128 :: List.replicate pd 0 := by simp [cur64]
theorem cur64_succ (xs : List Nat) (pd n : Nat) {k : Nat} (hk : k < 16) : cur64 xs pd n (k + 1) = cur64 xs pd n k ++ [(ln64 n).getD k 0] := by
 have hl : k < (ln64 n).length := hk
 unfold cur64
 rw [List.take_add_one, List.getD, List.getElem?_eq_getElem hl, List.append_assoc (xs ++ 128 :: List.replicate pd 0)]
 rfl
theorem cur64_all (xs : List Nat) : cur64 xs (pad64 xs.length) xs.length 16 = msg64 xs := rfl
theorem hf64_succ : ∀ (q : Nat) (s : S8x64) (m : List Nat), hf64 (q + 1) s m = mxs64 (hf64 q s m) (wds64 ((m.drop (q * 128)).take 128))
 | 0, s, m => by simp [hf64]
 | q + 1, s, m => by
  show hf64 (q + 1) (mxs64 s (wds64 (m.take 128))) (m.drop 128) = _
  rw [hf64_succ q, List.drop_drop]
  have e : 128 + q * 128 = (q + 1) * 128 := by omega
  rw [e]
  rfl
theorem rgcut64 {w : World} {g : Nat} {M : List Nat} (h : w.rangeAt g 0 (Ny M)) (o k : Nat) : w.rangeAt g o (((M.drop o).take k).map fun x => .int .u8 ((x : Nat) : Int)) := fun j v hj => by
 have e := h (o + j) v (by
  rw [List.getElem?_map, List.getElem?_take] at hj
  split at hj
  ·rw [Ny_get, ← hj, List.getElem?_drop]
  ·simp at hj)
 rwa [Nat.zero_add] at e
def oy64 (s : S8x64) (n : Nat) : List Nat := (List.range n).map (sby64 s.list)
theorem oy64_succ (s : S8x64) (n : Nat) : oy64 s (n + 1) = oy64 s n ++ [sby64 s.list n] := by simp [oy64, List.range_succ]
theorem oy64_tabs (s : S8x64) (n : Nat) : Ny (oy64 s n) = Tabs .u8 (sby64 s.list) n := by simp [oy64, Ny, Tabs]
theorem sbyat64 (l : List Nat) (k t m : Nat) (h : m + 1 + t = 8) : ((l.getD k 0 : Nat) : Int) / 2 ^ (8 * m) % 256 = ((sby64 l (k * 8 + t) : Nat) : Int) := by
 unfold sby64
 have e1 : (k * 8 + t) / 8 = k := by omega
 have e2 : 8 - 1 - (k * 8 + t) % 8 = m := by omega
 rw [e1, e2]
 generalize l.getD k 0 = x
 have e : (x : Int) / 2 ^ (8 * m) = ((x / 2 ^ (8 * m) : Nat) : Int) := by push_cast; rfl
 rw [e]
 generalize x / 2 ^ (8 * m) = y
 omega
theorem padstep64 (xs : List Nat) (k : Nat) : xs ++ 128 :: List.replicate k 0 ++ [0] = xs ++ 128 :: List.replicate (k + 1) 0 := by simp [List.replicate_succ']
set_option maxHeartbeats 4000000 in
theorem rsum64 (A B : Nat) (xs : List Nat) (a : Option Addr) (n cap : Nat) (F : Nat → Prop) (w : World) (hfc : Row w A 59 (Vs64 fc64)) (hrc : Row w B 59 (Vs64 rc64)) (hx : ∀ x ∈ xs, x < 256) (hr : Rd w F a n (Ny xs)) (hn : n < 1099511627776) :
  Calls Tryz.prog 89 #[.agg (KdL64 A B).toArray, .slice a n cap] w fun e w' => ∃ v, e = .returned v ∧ w'.ownsRow w.heap.size 5 1 v 64 (Tabs .u8 (sby64 (hf64 ((msg64 xs).length / 128) ini64 (msg64 xs)).list) 64) ∧ Below w.heap.size w w' := by
 obtain ⟨i0, hi, hz0, hz1, hz2⟩ := info_parts u8_info
 have hl : xs.length = n := by have := hr.1; rwa [Ny_len] at this
 have hrow0 : Row (w.alloc (.cells (KdL64 A B).toArray 130)) w.heap.size 130 (KdL64 A B) := Row.new _ _ _
 have hb0 : Below w.heap.size w ((w.alloc (.cells (KdL64 A B).toArray 130)).alloc (.cells #[] 5)) := ((Below.refl _ _).alloc (Nat.le_refl _) _).alloc (by simp) _
 have hr0 : Rd ((w.alloc (.cells (KdL64 A B).toArray 130)).alloc (.cells #[] 5)) F a n (Ny xs) := hr.keep hb0.size (fun k _ hl => hb0.block k hl)
 have hown0 := World.ownsRow_made (w.alloc (.cells (KdL64 A B).toArray 130)) (e := 5) (size := 1) #[] 0 (Nat.le_refl _) (by decide) rfl
 have HI := yH hi
 have HZ0 := yH hz0
 have HZ1 := yH hz1
 have HZ2 := yH hz2
 have HFC := yH hfc
 have HRC := yH hrc
 have HX := yH hx
 have HL := yH hl
 have HROW0 := yH hrow0
 have HB0 := yH hb0
 have HR0 := yH hr0
 have HOWN0 := yH hown0
 clear hi hz0 hz1 hz2 hfc hrc hx hr hl hrow0 hb0 hr0 hown0
 go_enter Tryz.func89, Tryz.ntmps89
 go_upto_region 1 with fail
 go_wp2_with (at_builtin; refine wpList_append_rd _ rfl (.tmp 13) (.tmp 14) 24 rfl (w.heap.size + 1) 5 i0 (.int .u8 0) 1 Tryz.underlying24 HI.out HZ0.out HZ1.out HZ2.out rfl (.slice (some ⟨w.heap.size + 1, 0, none⟩) 0 0) 0 [] rfl (by have := HOWN0.out; simpa using this) F a n cap (Ny xs) rfl HR0.out (Ny_one _) (by unfold maxLen; omega) (by omega) (by simp) ?_)
 intro v1 w1 hown1 hg1 _
 have hb1 : Below (w.heap.size + 1) (w.alloc (.cells (KdL64 A B).toArray 130)) w1 := ((Below.refl (w.heap.size + 1) (w.alloc (.cells (KdL64 A B).toArray 130))).alloc (by simp) _).grown hg1 (by simp) (fun j hj => by have hj' : w.heap.size + 1 = j := Option.some.inj hj; omega)
 obtain ⟨A1, c1, rfl⟩ := own_slice hown1
 have HO1 := yH hown1
 have HB1 := yH hb1
 clear hown1 hg1 hb1 HR0 HOWN0
 have hsz := HB1.out.size
 simp at hsz
 have HSZ := yH hsz
 clear hsz
 go_wp2_with (at_builtin; refine wpList_append_rd _ rfl (.tmp 15) (.tmp 16) 24 rfl (w.heap.size + 1) 5 i0 (.int .u8 0) 1 Tryz.underlying24 HI.out HZ0.out HZ1.out HZ2.out rfl (.slice A1 (n) c1) (n) (Ny (xs)) rfl (HO1.out.alloc _) (fun j => j = w1.heap.size) (some ⟨w1.heap.size, 0, none⟩) 1 1 (Ny [128]) rfl (Rd.lit w1 (Ny [128]) _ _ rfl 1 rfl) (Ny_one _) (by unfold maxLen; omega) (by omega) (by have := HSZ.out; simp; omega) ?_)
 intro v2 w2 hownN hgN _
 have hbN : Below (w.heap.size + 1) (w.alloc (.cells (KdL64 A B).toArray 130)) w2 := (HB1.out.alloc (by have := HSZ.out; omega) _).grown hgN (by have := HSZ.out; simp; omega) (fun j hj => (HO1.out.lt j hj).1)
 rw [← Ny_append] at hownN
 obtain ⟨A2, c2, rfl⟩ := own_slice hownN
 have HO2 := yH hownN
 have HB2 := yH hbN
 clear hownN hgN hbN HO1 HB1 HSZ
 have hrw2 : Row w2 w.heap.size 130 (KdL64 A B) := HROW0.out.below HB2.out (by omega)
 have d0 := hrw2.cell (k := 0) rfl
 clear hrw2
 go_wp2_with fail
 clear d0
 go_loopg [5] (pad64 n) (fun g v wr => ∃ (k : Nat) (Av : Option Addr) (cv : Nat), k + g = pad64 n ∧ v = .slice Av (n + 1 + k) cv ∧ wr.ownsRow (w.heap.size + 1) 5 1 (.slice Av (n + 1 + k) cv) (n + 1 + k) (Ny (xs ++ 128 :: List.replicate k 0)) ∧ Below (w.heap.size + 1) (w.alloc (.cells (KdL64 A B).toArray 130)) wr)
 case atStart => exact ⟨0, A2, c2, by omega, rfl, HO2.out, HB2.out⟩
 case round =>
  obtain ⟨k, Av, cv, hk, rfl, hown, hbb⟩ := hrel
  have hrw := HROW0.out.below hbb (by omega)
  have d15 := hrw.cell (k := 15) rfl
  have hpl := pad64_lt n
  have HOWN := yH hown
  have HBB := yH hbb
  have HRW := yH hrw
  clear hown hbb hrw
  by_cases hlt : k < pad64 n
  ·have hne := pad64_not n k hlt
   have hb : (((n : Int) + 1 + k + 16) % 128 != 0) = true := by rw [bne_iff_ne]; omega
   clear hne
   have hsz := HBB.out.size
   simp at hsz
   have HSZ := yH hsz
   clear hsz
   go_wp2_with (at_builtin; refine wpList_append_rd _ rfl (.tmp 29) (.tmp 30) 24 rfl (w.heap.size + 1) 5 i0 (.int .u8 0) 1 Tryz.underlying24 HI.out HZ0.out HZ1.out HZ2.out rfl (.slice Av (n + 1 + k) cv) (n + 1 + k) (Ny (xs ++ 128 :: List.replicate k 0)) rfl (HOWN.out.alloc _) (fun j => j = wr.heap.size) (some ⟨wr.heap.size, 0, none⟩) 1 1 (Ny [0]) rfl (Rd.lit wr (Ny [0]) _ _ rfl 1 rfl) (Ny_one _) (by unfold maxLen; omega) (by omega) (by have := HSZ.out; simp; omega) ?_)
   intro v3 w3 hownN hgN _
   have hbN : Below (w.heap.size + 1) (w.alloc (.cells (KdL64 A B).toArray 130)) w3 := (HBB.out.alloc (by have := HSZ.out; omega) _).grown hgN (by have := HSZ.out; simp; omega) (fun j hj => (HOWN.out.lt j hj).1)
   rw [← Ny_append] at hownN
   obtain ⟨A3, c3, rfl⟩ := own_slice hownN
   rw [padstep64] at hownN
   have HO3 := yH hownN
   have HB3 := yH hbN
   clear hownN hgN hbN HSZ hb d15
   go_wp2_with fail
   go_roundg (pad64 n - (k + 1))
   case measure => omega
   case rel => exact ⟨k + 1, A3, c3, by omega, rfl, HO3.out, HB3.out⟩
  ·obtain rfl : k = pad64 n := by omega
   have hhit := pad64_hit n
   have hb : (((n : Int) + 1 + (pad64 n : Nat) + 16) % 128 != 0) = false := by rw [bne_eq_false_iff_eq]; omega
   clear hhit
   generalize hpd : pad64 n = pd at *
   have HPD := yH hpd
   clear hpd
   go_upto_region 5 with fail
   clear hb
   have n0 : (0 : Int) ≤ (n : Int) := by omega
   go_wp2_with fail
   clear d15
   go_loopw [5, 8] (fun v i wx => ∃ (r k : Nat) (Av : Option Addr) (cv : Nat), k + r = 16 ∧ i = .int .i64 ((r : Int) - 1) ∧ v = .slice Av (n + 1 + pd + k) cv ∧ wx.ownsRow (w.heap.size + 1) 5 1 (.slice Av (n + 1 + pd + k) cv) (n + 1 + pd + k) (Ny (cur64 xs pd n k)) ∧ Below (w.heap.size + 1) (w.alloc (.cells (KdL64 A B).toArray 130)) wx) (fun _ i _ => ((intOf i) + 1).toNat)
   case atStart => exact ⟨16, 0, Av, cv, rfl, rfl, rfl, by rw [cur64_zero]; exact HOWN.out, HBB.out⟩
   case round =>
    obtain ⟨r, k, Av, cv, hk, rfl, rfl, hown, hbb⟩ := hrel
    have HOWN := yH hown
    have HBB := yH hbb
    clear hown hbb
    cases r with
    | succ m =>
     have em : ((m + 1 : Nat) : Int) - 1 = (m : Int) := by omega
     rw [em]
     clear em
     have hlb := lnget64 n k m hk
     have hltk := cur64_succ xs pd n (k := k) (by omega)
     generalize (ln64 n).getD k 0 = lb at *
     have HLTK := yH hltk
     clear hltk
     by_cases h8 : 8 ≤ m
     ·rw [if_pos h8] at hlb
      subst hlb
      have i8 : decide ((8 : Int) ≤ (m : Int)) = true := by simp; omega
      have hsz := HBB.out.size
      simp at hsz
      have HSZ := yH hsz
      clear hsz
      go_wp2_with (at_builtin; refine wpList_append_rd _ rfl (.tmp 45) (.tmp 46) 24 rfl (w.heap.size + 1) 5 i0 (.int .u8 0) 1 Tryz.underlying24 HI.out HZ0.out HZ1.out HZ2.out rfl (.slice Av (n + 1 + pd + k) cv) (n + 1 + pd + k) (Ny (cur64 xs pd n k)) rfl (HOWN.out.alloc _) (fun j => j = wr.heap.size) (some ⟨wr.heap.size, 0, none⟩) 1 1 (Ny [0]) rfl (Rd.lit wr (Ny [0]) _ _ rfl 1 rfl) (Ny_one _) (by unfold maxLen; omega) (by omega) (by have := HSZ.out; simp; omega) ?_)
      intro v3 w3 hownN hgN _
      have hbN : Below (w.heap.size + 1) (w.alloc (.cells (KdL64 A B).toArray 130)) w3 := (HBB.out.alloc (by have := HSZ.out; omega) _).grown hgN (by have := HSZ.out; simp; omega) (fun j hj => (HOWN.out.lt j hj).1)
      rw [← Ny_append] at hownN
      obtain ⟨A3, c3, rfl⟩ := own_slice hownN
      rw [← HLTK.out] at hownN
      have HO3 := yH hownN
      have HB3 := yH hbN
      clear hownN hgN hbN HSZ i8
      go_wp2_with fail
      go_roundw
      case rel => exact ⟨m, k + 1, A3, c3, by omega, rfl, rfl, HO3.out, HB3.out⟩
      case measure => simp [intOf]
     ·rw [if_neg h8] at hlb
      have i8 : decide ((8 : Int) ≤ (m : Int)) = false := by simp; omega
      have hby : (n : Int) * 8 / 2 ^ (8 * m) % 256 = (lb : Int) := by
       rw [hlb]
       have e : (n : Int) * 8 / 2 ^ (8 * m) = ((n * 8 / 2 ^ (8 * m) : Nat) : Int) := by push_cast; rfl
       rw [e]
       omega
      have HLB := yH hlb
      clear hlb
      have hsz := HBB.out.size
      simp at hsz
      have HSZ := yH hsz
      clear hsz
      go_wp2_with (at_builtin; refine wpList_append_rd _ rfl (.tmp 48) (.tmp 54) 24 rfl (w.heap.size + 1) 5 i0 (.int .u8 0) 1 Tryz.underlying24 HI.out HZ0.out HZ1.out HZ2.out rfl (.slice Av (n + 1 + pd + k) cv) (n + 1 + pd + k) (Ny (cur64 xs pd n k)) rfl (HOWN.out.alloc _) (fun j => j = wr.heap.size) (some ⟨wr.heap.size, 0, none⟩) 1 1 (Ny [lb]) rfl (Rd.lit wr (Ny [lb]) _ _ rfl 1 rfl) (Ny_one _) (by unfold maxLen; omega) (by omega) (by have := HSZ.out; simp; omega) ?_)
      intro v3 w3 hownN hgN _
      have hbN : Below (w.heap.size + 1) (w.alloc (.cells (KdL64 A B).toArray 130)) w3 := (HBB.out.alloc (by have := HSZ.out; omega) _).grown hgN (by have := HSZ.out; simp; omega) (fun j hj => (HOWN.out.lt j hj).1)
      rw [← Ny_append] at hownN
      clear hby
      obtain ⟨A3, c3, rfl⟩ := own_slice hownN
      rw [← HLTK.out] at hownN
      have HO3 := yH hownN
      have HB3 := yH hbN
      clear hownN hgN hbN HSZ i8
      go_wp2_with fail
      go_roundw
      case rel => exact ⟨m, k + 1, A3, c3, by omega, rfl, rfl, HO3.out, HB3.out⟩
      case measure => simp [intOf]
    | zero =>
     obtain rfl : k = 16 := by omega
     have hrw := HROW0.out.below HBB.out (by omega)
     have d1 := hrw.cell (k := 1) rfl
     clear hrw
     go_upto_region 12 with fail
     have hown := HOWN.out
     have hmsg : cur64 xs pd n 16 = msg64 xs := by
      have h := cur64_all xs
      rw [HL.out, HPD.out] at h
      exact h
     rw [hmsg] at hown
     have hlen := msg64_len xs
     rw [HL.out, HPD.out] at hlen
     have hmod := msg64_mod xs
     obtain ⟨g, c0, hv, hgb, hgl⟩ := hown.form (by omega)
     simp only [Value.slice.injEq] at hv
     obtain ⟨rfl, -, rfl⟩ := hv
     have hcs := hown.cells (g := g) rfl
     have hcap := own_cap hown
     rw [Ny_len] at hcap
     have hrg : wr.rangeAt g 0 (Ny (msg64 xs)) := fun j v hj => by
      have h := hcs j v hj
      have e : (⟨g, 0, none⟩ : Addr).add j = ⟨g, j, none⟩ := by unfold Addr.add; split <;> simp_all
      rw [e] at h
      rwa [Nat.zero_add]
     have hmlt := msg64_lt HX.out
     clear hmsg hown hcs HOWN
     generalize hM : msg64 xs = M at *
     have HM := yH hM
     clear hM
     have hK : M.length / 128 * 128 = n + 1 + pd + 16 := by omega
     have hfcr := (HFC.out.alloc (.cells (KdL64 A B).toArray 130)).below HBB.out (by have := HFC.out.lt; omega)
     have hst0 : wr.rangeAt A 0 (Vs64 (hf64 0 ini64 M).list) := rowmid64 hfcr 0 (by rfl)
     have hal := hfcr.lt
     have HKK := yH hK
     have HLEN := yH hlen
     have HCAP := yH hcap
     have HRG := yH hrg
     have HST0 := yH hst0
     have HMLT := yH hmlt
     have HGL := yH hgl
     have HAL := yH hal
     clear hK hlen hcap hrg hst0 hmlt hgl hgb hal hfcr hmod
     go_wp2_with fail
     clear d1
     go_loopg [9, 5] (M.length / 128) (fun gh v m wy => ∃ (r q p ch c : Nat) (Am : Option Addr), r = gh ∧ (q + r) * 128 = M.length ∧ v = .slice (some ⟨p, 0, none⟩) 8 ch ∧ m = .slice Am (r * 128) c ∧ (0 < r → Am = some ⟨g, q * 128, none⟩) ∧ r * 128 ≤ c ∧ wy.rangeAt p 0 (Vs64 (hf64 q ini64 M).list) ∧ p < wy.heap.size ∧ wy.rangeAt g 0 (Ny M) ∧ g < wy.heap.size ∧ Below (w.heap.size + 1) (w.alloc (.cells (KdL64 A B).toArray 130)) wy)
     case atStart => exact ⟨_, 0, A, 8, _, _, rfl, by have := HKK.out; have := HLEN.out; omega, rfl, by rw [HKK.out], fun _ => rfl, by have := HKK.out; have := HLEN.out; have := HCAP.out; omega, HST0.out, HAL.out, HRG.out, HGL.out, HBB.out⟩
     case round =>
      obtain ⟨r, q, p, ch, c, Am, rfl, hqr, rfl, rfl, ham, hc, hst, hpl, hrg, hgl, hbb⟩ := hrel
      have HST := yH hst
      have HPL := yH hpl
      have HRG := yH hrg
      have HGL := yH hgl
      have HBB := yH hbb
      have HQR := yH hqr
      clear hst hpl hrg hgl hbb hqr
      cases r with
      | zero =>
       rw [Nat.zero_mul]
       have hq : M.length / 128 = q := by have := HQR.out; omega
       have HQ := yH hq
       clear hq ham hc
       have hok := hf64_ok q ini64 M ini64_ok
       have hst := HST.out
       clear HST HST0
       generalize hs : hf64 q ini64 M = s at *
       have HS := yH hs
       have HOK := yH hok
       have HST := yH hst
       obtain ⟨wo, rfl⟩ : ∃ wo : World, wo = wr := ⟨_, rfl⟩
       have hbw : Below w.heap.size w wo := ((Below.refl w.heap.size w).alloc (Nat.le_refl _) _).trans (HBB.out.mono (Nat.le_succ _))
       have HBW := yH hbw
       clear hs hok hst hbw
       go_wp2_with fail
       go_loopw [10, 11] (fun o i wy => ∃ k : Nat, k ≤ 8 ∧ i = .int .i64 k ∧ wy.ownsRow wo.heap.size 5 1 o (k * 8) (Ny (oy64 s (k * 8))) ∧ Below wo.heap.size wo wy) (fun _ i _ => 8 - (intOf i).toNat)
       case atStart => exact ⟨0, by decide, rfl, World.ownsRow_nil _ _ _ _, Below.refl _ _⟩
       case round =>
        obtain ⟨k, hk, rfl, hown, hbx⟩ := hrel
        by_cases hlt : k < 8
        ·have b5 : (k : Int) < 8 := by omega
         have b6 : (0 : Int) ≤ (k : Int) := by omega
         have c0 := (HROW0.out.below (HBB.out.trans (hbx.mono (by have := HBB.out.size; simpa using this))) (by omega)).cell (k := 0) rfl
         have HOWN := yH hown
         have HBX := yH hbx
         clear hown hbx
         go_wp2_with fail
         clear c0
         go_loopw [10, 12] (fun o j wz => ∃ m t : Nat, m + t = 8 ∧ j = .int .i64 (8 * (m : Int) - 8) ∧ wz.ownsRow wo.heap.size 5 1 o (k * 8 + t) (Ny (oy64 s (k * 8 + t))) ∧ Below wo.heap.size wo wz) (fun _ j _ => ((intOf j) + 8).toNat)
         case atStart => exact ⟨8, 0, rfl, rfl, HOWN.out, HBX.out⟩
         case round =>
          obtain ⟨m, t, hm, rfl, hown, hbx⟩ := hrel
          obtain ⟨Av, cv, rfl⟩ := own_slice hown
          cases m with
          | zero =>
           obtain rfl : t = 8 := by omega
           have e : k * 8 + 8 = (k + 1) * 8 := by omega
           rw [e] at hown
           have HOWN := yH hown
           have HBX := yH hbx
           clear hown hbx
           rw [e]
           go_wp2_with fail
           go_roundw
           case rel => exact ⟨k + 1, by omega, rfl, HOWN.out, HBX.out⟩
           case measure => simp [intOf]; omega
          | succ m =>
           have em : 8 * ((m + 1 : Nat) : Int) - 8 = 8 * (m : Int) := by omega
           rw [em]
           clear em
           have c1 := rg64 (range64_below HST.out hbx HPL.out) (k := k) hlt
           have hso := oy64_succ s (k * 8 + t)
           have hby := sbyat64 s.list k t m hm
           generalize s.list.getD k 0 = x at *
           generalize sby64 s.list (k * 8 + t) = lb at *
           have HSO := yH hso
           have b7 : (0 : Int) ≤ 8 * (m : Int) := by omega
           have HOWN := yH hown
           have HBX := yH hbx
           clear hown hbx hso
           have HSZ := yH HBX.out.size
           go_wp2_with (at_builtin; refine wpList_append_rd _ rfl (.tmp 81) (.tmp 89) 24 rfl wo.heap.size 5 i0 (.int .u8 0) 1 Tryz.underlying24 HI.out HZ0.out HZ1.out HZ2.out rfl (.slice Av (k * 8 + t) cv) (k * 8 + t) (Ny (oy64 s (k * 8 + t))) rfl (HOWN.out.alloc _) (fun j => j = wr.heap.size) (some ⟨wr.heap.size, 0, none⟩) 1 1 (Ny [lb]) rfl (Rd.lit wr (Ny [lb]) _ _ rfl 1 rfl) (Ny_one _) (by unfold maxLen; omega) (by omega) (by have := HSZ.out; simp; omega) ?_)
           intro v2 w2 hownN hgN _
           have hbN : Below wo.heap.size wo w2 := (HBX.out.alloc HSZ.out _).grown hgN (by have := HSZ.out; simp; omega) (fun j hj => (HOWN.out.lt j hj).1)
           rw [← Ny_append, ← HSO.out] at hownN
           obtain ⟨A3, c3, rfl⟩ := own_slice hownN
           have HO3 := yH hownN
           have HB3 := yH hbN
           clear hownN hgN hbN hby
           go_wp2_with fail
           go_roundw
           case rel =>
            exact ⟨m, t + 1, by omega, rfl, HO3.out, HB3.out⟩
           case measure => simp [intOf]; omega
        ·obtain rfl : k = 8 := by omega
         go_wp2_with fail
         go_ret
         rw [HM.out, HQ.out, HS.out]
         refine ⟨_, rfl, ?_, HBW.out.trans (hbx.mono HBW.out.size)⟩
         have ho := own_base hown HBW.out.size
         rwa [oy64_tabs] at ho
      | succ r =>
       obtain rfl := ham (by omega)
       clear ham
       have hb : decide ((0 : Int) < ((r : Int) + 1) * 128) = true := by simp; omega
       have hc64 : (128 : Int) ≤ (c : Int) := by omega
       have hrw := HROW0.out.below HBB.out (by omega)
       have hrow := hrw.drewN 1
       have HROW := yH hrow
       have KI := yH kdInfo64
       have hrcw := ((HRC.out.alloc (.cells (KdL64 A B).toArray 130)).below HBB.out (by have := HRC.out.lt; omega)).drewN 1
       have hpart : ((M.drop (q * 128)).take 128).length = 128 := by
        have := HQR.out
        rw [List.length_take, List.length_drop]
        omega
       have hpx : ∀ x ∈ (M.drop (q * 128)).take 128, x < 256 := fun x hx => HMLT.out x (List.mem_of_mem_drop (List.mem_of_mem_take hx))
       have HRCW := yH hrcw
       have HPART := yH hpart
       have HPX := yH hpx
       clear hrw hrow hrcw hpart hpx
       go_upto_region 14 with fail
       refine wp_region_any (by kernel_rfl) ?_
       change wpAny _ _ _ _ _ _ _ (World.drew _)
       refine wpAny_of_held (S := (fun w' : World => Row w' w.heap.size 130 (KdL64 A B))) _ _ _ _ ?_
       have hHeld := HROW.out
       refine wpAnyH_take (i := 0) (v := .agg (KdL64 A B).toArray) rfl (by kernel_rfl) (by kernel_rfl) (by kernel_rfl) (fun _ _ _ h => h) (yieldsIf_load_mid (by rfl) 130 (.tmp 2) rfl w.heap.size 0 rfl (KdL64 A B) _ (fun w' hSw => hSw.range) (by rfl) rfl KI.out) hHeld ?_
       change wpAnyH _ _ _ _ _ _ _ (Act.put _ (some 61) _) _
       simp only [Act.put, yA, yB, yC]
       have hl : Ls [(1, 62), (2, 63), (3, 64), (4, 65)] := trivial
       repeat
        refine tkl hl (v := ?_) rfl rfl (by kernel_rfl) (fun _ _ _ h => h) (by rfl) ?_ hHeld ?_
        rotate_left
        ·(intro w' hSw; go_simp; try (with_reducible rfl))
        simp only [Act.put, yA, yB, yC]
        replace hl := hl.tl
       clear hl
       refine wpAnyH_ready (rs := [5]) (by kernel_rfl) (by simp) ?_
       refine AllReadyH.cons rfl (fun K hK => ?_) AllReadyH.nil
       rw [if_pos (by kernel_rfl)]
       go_simp
       refine (block64 A B p ch g (q * 128) c (hf64 q ini64 M) ((M.drop (q * 128)).take 128) _ (hf64_ok q _ _ ini64_ok) HPART.out HPX.out HRCW.out HST.out HPL.out (rgcut64 HRG.out _ _) HGL.out).mono ?_
       rintro e w3 ⟨v3, rfl, hown3, hb3⟩
       refine hK.out _ _ (hHeld.belowAll hb3) (fun hHeld => ?_)
       clear hK K
       have HOWN3 := yH hown3
       have HB3 := yH hb3
       clear hown3 hb3
       refine wpAnyH_ready (rs := [6]) (by kernel_rfl) (by simp) ?_
       refine AllReadyH.cons rfl (fun K hK => ?_) AllReadyH.nil
       rw [if_pos (by kernel_rfl)]
       go_simp
       refine hK.out _ _ hHeld (fun hHeld => ?_)
       clear hK K
       refine wpAnyH_done (by kernel_rfl) ?_ _
       have hh := HOWN3.out
       obtain ⟨p3, c3, rfl, hp3b, hp3l⟩ := hh.form (by decide)
       have hcs3 := hh.cells (g := p3) rfl
       have hst3 : w3.rangeAt p3 0 (Vs64 (hf64 (q + 1) ini64 M).list) := fun j v hj => by
        rw [hf64_succ] at hj
        have h := hcs3 j v hj
        have e : (⟨p3, 0, none⟩ : Addr).add j = ⟨p3, j, none⟩ := by unfold Addr.add; split <;> simp_all
        rw [e] at h
        rwa [Nat.zero_add]
       have hsz : w.heap.size + 1 ≤ wr.heap.size := by
        have := HBB.out.size
        simpa using this
       have hbb3 : Below (w.heap.size + 1) (w.alloc (.cells (KdL64 A B).toArray 130)) w3 := (below_drewN HBB.out 1).trans (HB3.out.mono hsz)
       have hrg3 : w3.rangeAt g 0 (Ny M) := range64_below (w := wr.drewN 1) HRG.out HB3.out HGL.out
       have hgl3 : g < w3.heap.size := Nat.lt_of_lt_of_le HGL.out HB3.out.size
       have HST3 := yH hst3
       have HBB3 := yH hbb3
       have HRG3 := yH hrg3
       have HGL3 := yH hgl3
       have HP3 := yH hp3l
       have hqr := HQR.out
       clear hh hcs3 hst3 hsz hbb3 hrg3 hgl3 hp3l hp3b hb HOWN3
       have hn64 : (128 : Int) ≤ ((r : Int) + 1) * 128 := by omega
       by_cases hcc : c = 128
       ·obtain rfl : r = 0 := by omega
        subst hcc
        go_wp2_with fail
        go_roundg 0
        case measure => omega
        case rel =>
         exact ⟨0, q + 1, p3, c3, 0, some ⟨g, q * 128, none⟩, rfl, by omega, rfl, by rw [Nat.zero_mul], fun h => absurd h (by omega), by omega, HST3.out, HP3.out, HRG3.out, HGL3.out, HBB3.out⟩
       ·have hcl : (128 : Int) < (c : Int) := by omega
        go_wp2_with fail
        go_roundg r
        case measure => omega
        case rel =>
         have e1 : (r + 1) * 128 - 128 = r * 128 := by omega
         have e2 : q * 128 + 128 = (q + 1) * 128 := by omega
         rw [e1, e2]
         exact ⟨r, q + 1, p3, c3, c - 128, _, rfl, by omega, rfl, rfl, fun _ => rfl, by omega, HST3.out, HP3.out, HRG3.out, HGL3.out, HBB3.out⟩
theorem spl64 {L : List Value} (h : L.length = 64) : splice (List.replicate 64 (.int .u8 0)) 0 L = L := by
 unfold splice
 rw [Nat.zero_add, h]
 simp
set_option maxHeartbeats 2000000 in
theorem docsum64 (xs : List Nat) (a : Option Addr) (n cap : Nat) (F : Nat → Prop) (w : World) (hx : ∀ x ∈ xs, x < 256) (hr : Rd w F a n (Ny xs)) (hn : n < 1099511627776) :
  Calls Tryz.prog 50 #[.slice a n cap] w fun e w' => e = .returned (.agg (Tabs .u8 (sby64 (hf64 ((msg64 xs).length / 128) ini64 (msg64 xs)).list) 64).toArray) ∧ Below w.heap.size w w' := by
 have HX := yH hx
 have HR := yH hr
 clear hx hr
 go_enter Tryz.func50, Tryz.ntmps50
 go_upto_region 2 with fail
 have hb0 : Below w.heap.size w ((w.alloc (.cells ((List.replicate 64 (.int .u8 0)) : List Value).toArray 30)).alloc (.cells ((List.replicate 64 (.int .u8 0)) : List Value).toArray 30)).drew := (((Below.refl _ _).alloc (Nat.le_refl _) _).alloc (by simp) _).drew
 have hh : Row ((w.alloc (.cells ((List.replicate 64 (.int .u8 0)) : List Value).toArray 30)).alloc (.cells ((List.replicate 64 (.int .u8 0)) : List Value).toArray 30)).drew (w.heap.size + 1) 30 (List.replicate 64 (.int .u8 0)) ∧ Row ((w.alloc (.cells ((List.replicate 64 (.int .u8 0)) : List Value).toArray 30)).alloc (.cells ((List.replicate 64 (.int .u8 0)) : List Value).toArray 30)).drew w.heap.size 30 (List.replicate 64 (.int .u8 0)) := ⟨heap_alloc2_new _ _ _, (Row.new w (List.replicate 64 (.int .u8 0)) 30).alloc _⟩
 have HB0 := yH hb0
 have HH := yH hh
 clear hb0 hh
 refine wp_region_any (by kernel_rfl) ?_
 change wpAny _ _ _ _ _ _ _ (World.drew _)
 refine wpAny_of_held (S := (fun w' : World => Row w' w.heap.size 30 (List.replicate 64 (.int .u8 0)))) _ _ _ _ ?_
 have hHeld := HH.out.2
 have hl : Ls [(0, 4), (2, 6)] := trivial
 repeat
  refine tkl hl (v := ?_) rfl rfl (by kernel_rfl) (fun _ _ _ h => h) (by rfl) ?_ hHeld ?_
  rotate_left
  ·(intro w' hSw; go_simp; try (with_reducible rfl))
  simp only [Act.put, yA, yB, yC]
  replace hl := hl.tl
 clear hl
 refine wpAnyH_ready (rs := [1]) (by kernel_rfl) (by simp) ?_
 refine AllReadyH.cons rfl (fun K hK => ?_) AllReadyH.nil
 rw [if_pos (by kernel_rfl)]
 go_simp
 refine (kind64 _).mono ?_
 rintro e w3 ⟨KA, KB, rfl, hfc3, hrc3, hb3, hA3, hB3⟩
 refine hK.out _ _ (hHeld.belowAll hb3) (fun hHeld => ?_)
 clear hK K
 have hr3 := HR.out.belowAll (HB0.out.trans (hb3.mono HB0.out.size))
 have HR3 := yH hr3
 have HB3 := yH hb3
 have HFC := yH hfc3
 have HRC := yH hrc3
 clear hr3 hb3 hfc3 hrc3 hA3 hB3
 refine wpAnyH_ready (rs := [3]) (by kernel_rfl) (by simp) ?_
 refine AllReadyH.cons rfl (fun K hK => ?_) AllReadyH.nil
 rw [if_pos (by kernel_rfl)]
 go_simp
 refine (rsum64 KA KB xs a n cap F _ HFC.out HRC.out HX.out HR3.out hn).mono ?_
 rintro e w4 ⟨v4, rfl, hown4, hb4⟩
 refine hK.out _ _ (hHeld.belowAll hb4) (fun hHeld => ?_)
 clear hK K
 have HB4 := yH hb4
 obtain ⟨p4, c4, rfl, hp4b, hp4l⟩ := hown4.form (by decide)
 have hcs4 := hown4.cells (g := p4) rfl
 have HCS := yH hcs4
 clear hb4 hown4 hp4b hp4l hcs4
 have hrow4 := (HH.out.1.belowAll HB3.out).belowAll HB4.out
 have hbel4 := HB0.out.trans ((HB3.out.mono HB0.out.size).trans (HB4.out.mono (Nat.le_trans HB0.out.size HB3.out.size)))
 have hL1 : ∀ v ∈ Tabs .u8 (sby64 (hf64 ((msg64 xs).length / 128) ini64 (msg64 xs)).list) 64, v.oneCell' = true := by
  intro v hv
  simp only [Tabs, List.mem_map] at hv
  obtain ⟨i, _, rfl⟩ := hv
  rfl
 have hLn : (Tabs .u8 (sby64 (hf64 ((msg64 xs).length / 128) ini64 (msg64 xs)).list) 64).length = 64 := Tabs_length _ _ _
 generalize hL : Tabs .u8 (sby64 (hf64 ((msg64 xs).length / 128) ini64 (msg64 xs)).list) 64 = L at *
 have HLL := yH hL
 clear hL
 have HROW4 := yH hrow4
 have HBEL4 := yH hbel4
 have HL1 := yH hL1
 have HLN := yH hLn
 clear hrow4 hbel4 hL1 hLn
 refine wpAnyH_ready (rs := [4]) (by kernel_rfl) (by simp) ?_
 refine AllReadyH.cons rfl (fun K hK => ?_) AllReadyH.nil
 refine step_copy_splice (by rfl) (.tmp 4) (.tmp 7) 24 24 (by rfl) 5 Tryz.underlying24 (by kernel_rfl) (some ⟨w.heap.size + 1, 0, none⟩) (some ⟨p4, 0, none⟩) 64 64 64 c4 (by rfl) (by rfl) (w.heap.size + 1) 0 (List.replicate 64 (.int .u8 0)) 30 HROW4.out L (by rw [HLN.out]; rfl) (fun _ => ⟨rfl, _, rfl, HCS.out⟩) (by rw [HLN.out]; decide) HL1.out (w.heap.size + 1) w4 (Below.refl _ _) (Nat.le_refl _) ?_
 intro w5 hc5 hb5
 refine hK.out _ _ (hHeld.below hb5 (by omega)) (fun hHeld => ?_)
 clear hK K
 have HB5 := yH hb5
 clear hb5
 refine wpAnyH_done (by kernel_rfl) ?_ _
 have hcell := hc5.out
 rw [spl64 HLN.out] at hcell
 have hls : L.toArray.size = 64 := by simpa using HLN.out
 have hsz : (Tryz.prog.info? 30).map (·.size) = some L.toArray.size := by rw [hls]; kernel_rfl
 have hold : ((List.replicate 64 (.int .u8 0)) : List Value).toArray.size = L.toArray.size := by rw [hls]; rfl
 have hone := all_oneCell_toArray HL1.out
 have HCELL := yH hcell
 have HSZ := yH hsz
 have HRES := yH hHeld
 have HOLD := yH hold
 have HONE := yH hone
 clear hcell hls hsz hold hone hc5
 go_wp2_with (first
  | (refine wpList_load_row rfl 30 (.tmp 3) rfl (w.heap.size + 1) rfl 30 _ (0, 0) _ HCELL.out Tryz.underlying30 rfl HSZ.out ?_)
  | (refine wpList_store_row rfl 30 (.tmp 2) (.tmp 9) rfl w.heap.size _ rfl rfl 30 _ HRES.out HSZ.out HOLD.out HONE.out ?_))
 have hgot := setRow_heap w5 w.heap.size _ L.toArray _ _ HRES.out
 refine bodyPost_ret (results_cell_row (by rfl) _ _ w.heap.size _ _ _ _ (by rfl) hgot Tryz.underlying30 rfl HSZ.out) rfl ?_
 rw [HLL.out]
 exact ⟨rfl, below_setRow (HBEL4.out.trans (HB5.out.mono (Nat.le_succ _))) (Nat.le_refl _) _⟩
theorem dig64_doc {xs : List Nat} (hx : ∀ x ∈ xs, x < 256) (hn : xs.length < 1152921504606846976) : Tabs .u8 (sby64 (hf64 ((msg64 xs).length / 128) ini64 (msg64 xs)).list) 64 = dig64 (fed64 beg64 xs) := by
 unfold dig64
 rw [fnl64_doc hx hn]
theorem doc64 (xs : List Nat) (a : Option Addr) (n cap : Nat) (F : Nat → Prop) (w : World) (hx : ∀ x ∈ xs, x < 256) (hr : Rd w F a n (Ny xs)) (hn : n < 1099511627776) :
  Calls Tryz.prog 50 #[.slice a n cap] w fun e w' => e = .returned (.agg (dig64 (fed64 beg64 xs)).toArray) ∧ Below w.heap.size w w' := by
 have hl : xs.length = n := by have := hr.1; rwa [Ny_len] at this
 have h := docsum64 xs a n cap F w hx hr hn
 rwa [dig64_doc hx (by omega)] at h
end Go.Proofs.YtnpjecdodhkplaaGreatDoor
