/- The document's sum of bytes. -/
import Derived.Test.YtcdfbcpcgkcojaaDoorBlk32
import Derived.Test.YtcdfbcpcgkcojaaDoorShaM32
import Derived.Deep.LoopGhost
import Derived.Test.YtcdfbcpcgkcojaaDoorSpr32
import Derived.Test.YtcdfbcpcgkcojaaDoorNy
namespace Go.Proofs.YtcdfbcpcgkcojaaDoor
set_option maxRecDepth 100000
open Go.RowKit

theorem lnget32 (n k m : Nat) (h : k + (m + 1) = 8) : (ln32 n).getD k 0 = if 8 ≤ m then 0 else n * 8 / 2 ^ (8 * m) % 256 := by
  have hk : k < 8 := by omega
  obtain rfl : m = 8 - 1 - k := by omega
  match k, hk with
  | 0, _ => rfl
  | 1, _ => rfl
  | 2, _ => rfl
  | 3, _ => rfl
  | 4, _ => rfl
  | 5, _ => rfl
  | 6, _ => rfl
  | 7, _ => rfl
  | _ + 8, h => omega
def cur32 (xs : List Nat) (pd n k : Nat) : List Nat := xs ++ 128 :: List.replicate pd 0 ++ (ln32 n).take k
theorem cur32_zero (xs : List Nat) (pd n : Nat) : cur32 xs pd n 0 = xs ++ 128 :: List.replicate pd 0 := by simp [cur32]
theorem cur32_succ (xs : List Nat) (pd n : Nat) {k : Nat} (hk : k < 8) : cur32 xs pd n (k + 1) = cur32 xs pd n k ++ [(ln32 n).getD k 0] := by
  have hl : k < (ln32 n).length := hk
  unfold cur32
  rw [List.take_add_one, List.getD, List.getElem?_eq_getElem hl, List.append_assoc (xs ++ 128 :: List.replicate pd 0)]
  rfl
theorem cur32_all (xs : List Nat) : cur32 xs (pad32 xs.length) xs.length 8 = msg32 xs := rfl
theorem hf32_succ : ∀ (q : Nat) (s : S8x32) (m : List Nat), hf32 (q + 1) s m = mxs32 (hf32 q s m) (wds32 ((m.drop (q * 64)).take 64))
  | 0, s, m => by simp [hf32]
  | q + 1, s, m => by
    show hf32 (q + 1) (mxs32 s (wds32 (m.take 64))) (m.drop 64) = _
    rw [hf32_succ q, List.drop_drop]
    have e : 64 + q * 64 = (q + 1) * 64 := by omega
    rw [e]
    rfl
theorem rgcut32 {w : World} {g : Nat} {M : List Nat} (h : w.rangeAt g 0 (Ny M)) (o k : Nat) : w.rangeAt g o (((M.drop o).take k).map fun x => .int .u8 ((x : Nat) : Int)) := fun j v hj => by
  have e := h (o + j) v (by
    rw [List.getElem?_map, List.getElem?_take] at hj
    split at hj
    · rw [Ny_get, ← hj, List.getElem?_drop]
    · simp at hj)
  rwa [Nat.zero_add] at e
def oy32 (s : S8x32) (n : Nat) : List Nat := (List.range n).map (sby32 s.list)
theorem oy32_succ (s : S8x32) (n : Nat) : oy32 s (n + 1) = oy32 s n ++ [sby32 s.list n] := by simp [oy32, List.range_succ]
theorem oy32_tabs (s : S8x32) (n : Nat) : Ny (oy32 s n) = Tabs .u8 (sby32 s.list) n := by simp [oy32, Ny, Tabs]
theorem sbyat32 (l : List Nat) (k t m : Nat) (h : m + 1 + t = 4) : ((l.getD k 0 : Nat) : Int) / 2 ^ (8 * m) % 256 = ((sby32 l (k * 4 + t) : Nat) : Int) := by
  unfold sby32
  have e1 : (k * 4 + t) / 4 = k := by omega
  have e2 : 4 - 1 - (k * 4 + t) % 4 = m := by omega
  rw [e1, e2]
  generalize l.getD k 0 = x
  have e : (x : Int) / 2 ^ (8 * m) = ((x / 2 ^ (8 * m) : Nat) : Int) := by push_cast; rfl
  rw [e]
  generalize x / 2 ^ (8 * m) = y
  omega
theorem padstep32 (xs : List Nat) (k : Nat) : xs ++ 128 :: List.replicate k 0 ++ [0] = xs ++ 128 :: List.replicate (k + 1) 0 := by simp [List.replicate_succ']
set_option maxHeartbeats 4000000 in
theorem rsum32 (A B : Nat) (xs : List Nat) (a : Option Addr) (n cap : Nat) (F : Nat → Prop) (w : World) (hfc : Row w A 51 (Vs32 fc32)) (hrc : Row w B 51 (Vs32 rc32)) (hx : ∀ x ∈ xs, x < 256) (hr : Rd w F a n (Ny xs)) (hn : n < 1099511627776) :
    Calls Tryd.prog 22 #[.agg (KdL32 A B).toArray, .slice a n cap] w fun e w' => ∃ v, e = .returned v ∧ w'.ownsRow w.heap.size 5 1 v 32 (Tabs .u8 (sby32 (hf32 ((msg32 xs).length / 64) ini32 (msg32 xs)).list) 32) ∧ Below w.heap.size w w' := by
  obtain ⟨i0, hi, hz0, hz1, hz2⟩ := info_parts u8_info
  have hl : xs.length = n := by have := hr.1; rwa [Ny_len] at this
  have hrow0 : Row (w.alloc (.cells (KdL32 A B).toArray 53)) w.heap.size 53 (KdL32 A B) := Row.new _ _ _
  have hb0 : Below w.heap.size w ((w.alloc (.cells (KdL32 A B).toArray 53)).alloc (.cells #[] 5)) := ((Below.refl _ _).alloc (Nat.le_refl _) _).alloc (by simp) _
  have hr0 : Rd ((w.alloc (.cells (KdL32 A B).toArray 53)).alloc (.cells #[] 5)) F a n (Ny xs) := hr.keep hb0.size (fun k _ hl => hb0.block k hl)
  have hown0 := World.ownsRow_made (w.alloc (.cells (KdL32 A B).toArray 53)) (e := 5) (size := 1) #[] 0 (Nat.le_refl _) (by decide) rfl
  have HI := Lib.hid hi
  have HZ0 := Lib.hid hz0
  have HZ1 := Lib.hid hz1
  have HZ2 := Lib.hid hz2
  have HFC := Lib.hid hfc
  have HRC := Lib.hid hrc
  have HX := Lib.hid hx
  have HL := Lib.hid hl
  have HROW0 := Lib.hid hrow0
  have HB0 := Lib.hid hb0
  have HR0 := Lib.hid hr0
  have HOWN0 := Lib.hid hown0
  clear hi hz0 hz1 hz2 hfc hrc hx hr hl hrow0 hb0 hr0 hown0
  go_enter Tryd.func22, Tryd.ntmps22
  go_upto_region 1 with fail
  go_wp2_with (at_builtin; refine wpList_append_rd _ rfl (.tmp 13) (.tmp 14) 22 rfl (w.heap.size + 1) 5 i0 (.int .u8 0) 1 Tryd.underlying22 HI.out HZ0.out HZ1.out HZ2.out rfl (.slice (some ⟨w.heap.size + 1, 0, none⟩) 0 0) 0 [] rfl (by have := HOWN0.out; simpa using this) F a n cap (Ny xs) rfl HR0.out (Ny_one _) (by unfold maxLen; omega) (by omega) (by simp) ?_)
  intro v1 w1 hown1 hg1 _
  have hb1 : Below (w.heap.size + 1) (w.alloc (.cells (KdL32 A B).toArray 53)) w1 := ((Below.refl (w.heap.size + 1) (w.alloc (.cells (KdL32 A B).toArray 53))).alloc (by simp) _).grown hg1 (by simp) (fun j hj => by have hj' : w.heap.size + 1 = j := Option.some.inj hj; omega)
  obtain ⟨A1, c1, rfl⟩ := own_slice hown1
  have HO1 := Lib.hid hown1
  have HB1 := Lib.hid hb1
  clear hown1 hg1 hb1 HR0 HOWN0
  have hsz := HB1.out.size
  simp at hsz
  have HSZ := Lib.hid hsz
  clear hsz
  go_wp2_with (at_builtin; refine wpList_append_rd _ rfl (.tmp 15) (.tmp 16) 22 rfl (w.heap.size + 1) 5 i0 (.int .u8 0) 1 Tryd.underlying22 HI.out HZ0.out HZ1.out HZ2.out rfl (.slice A1 (n) c1) (n) (Ny (xs)) rfl (HO1.out.alloc _) (fun j => j = w1.heap.size) (some ⟨w1.heap.size, 0, none⟩) 1 1 (Ny [128]) rfl (Rd.lit w1 (Ny [128]) _ _ rfl 1 rfl) (Ny_one _) (by unfold maxLen; omega) (by omega) (by have := HSZ.out; simp; omega) ?_)
  intro v2 w2 hownN hgN _
  have hbN : Below (w.heap.size + 1) (w.alloc (.cells (KdL32 A B).toArray 53)) w2 := (HB1.out.alloc (by have := HSZ.out; omega) _).grown hgN (by have := HSZ.out; simp; omega) (fun j hj => (HO1.out.lt j hj).1)
  rw [← Ny_append] at hownN
  obtain ⟨A2, c2, rfl⟩ := own_slice hownN
  have HO2 := Lib.hid hownN
  have HB2 := Lib.hid hbN
  clear hownN hgN hbN HO1 HB1 HSZ
  have hrw2 : Row w2 w.heap.size 53 (KdL32 A B) := HROW0.out.below HB2.out (by omega)
  have d0 := hrw2.cell (k := 0) rfl
  clear hrw2
  go_wp2_with fail
  clear d0
  go_loopg [5] (pad32 n) (fun g v wr => ∃ (k : Nat) (Av : Option Addr) (cv : Nat), k + g = pad32 n ∧ v = .slice Av (n + 1 + k) cv ∧ wr.ownsRow (w.heap.size + 1) 5 1 (.slice Av (n + 1 + k) cv) (n + 1 + k) (Ny (xs ++ 128 :: List.replicate k 0)) ∧ Below (w.heap.size + 1) (w.alloc (.cells (KdL32 A B).toArray 53)) wr)
  case atStart => exact ⟨0, A2, c2, by omega, rfl, HO2.out, HB2.out⟩
  case round =>
    obtain ⟨k, Av, cv, hk, rfl, hown, hbb⟩ := hrel
    have hrw := HROW0.out.below hbb (by omega)
    have d15 := hrw.cell (k := 15) rfl
    have hpl := pad32_lt n
    have HOWN := Lib.hid hown
    have HBB := Lib.hid hbb
    have HRW := Lib.hid hrw
    clear hown hbb hrw
    by_cases hlt : k < pad32 n
    · have hne := pad32_not n k hlt
      have hb : (((n : Int) + 1 + k + 8) % 64 != 0) = true := by rw [bne_iff_ne]; omega
      clear hne
      have hsz := HBB.out.size
      simp at hsz
      have HSZ := Lib.hid hsz
      clear hsz
      go_wp2_with (at_builtin; refine wpList_append_rd _ rfl (.tmp 29) (.tmp 30) 22 rfl (w.heap.size + 1) 5 i0 (.int .u8 0) 1 Tryd.underlying22 HI.out HZ0.out HZ1.out HZ2.out rfl (.slice Av (n + 1 + k) cv) (n + 1 + k) (Ny (xs ++ 128 :: List.replicate k 0)) rfl (HOWN.out.alloc _) (fun j => j = wr.heap.size) (some ⟨wr.heap.size, 0, none⟩) 1 1 (Ny [0]) rfl (Rd.lit wr (Ny [0]) _ _ rfl 1 rfl) (Ny_one _) (by unfold maxLen; omega) (by omega) (by have := HSZ.out; simp; omega) ?_)
      intro v3 w3 hownN hgN _
      have hbN : Below (w.heap.size + 1) (w.alloc (.cells (KdL32 A B).toArray 53)) w3 := (HBB.out.alloc (by have := HSZ.out; omega) _).grown hgN (by have := HSZ.out; simp; omega) (fun j hj => (HOWN.out.lt j hj).1)
      rw [← Ny_append] at hownN
      obtain ⟨A3, c3, rfl⟩ := own_slice hownN
      rw [padstep32] at hownN
      have HO3 := Lib.hid hownN
      have HB3 := Lib.hid hbN
      clear hownN hgN hbN HSZ hb d15
      go_wp2_with fail
      go_roundg (pad32 n - (k + 1))
      case measure => omega
      case rel => exact ⟨k + 1, A3, c3, by omega, rfl, HO3.out, HB3.out⟩
    · obtain rfl : k = pad32 n := by omega
      have hhit := pad32_hit n
      have hb : (((n : Int) + 1 + (pad32 n : Nat) + 8) % 64 != 0) = false := by rw [bne_eq_false_iff_eq]; omega
      clear hhit
      generalize hpd : pad32 n = pd at *
      have HPD := Lib.hid hpd
      clear hpd
      go_upto_region 5 with fail
      clear hb
      have n0 : (0 : Int) ≤ (n : Int) := by omega
      go_wp2_with fail
      clear d15
      go_loopw [5, 8] (fun v i wx => ∃ (r k : Nat) (Av : Option Addr) (cv : Nat), k + r = 8 ∧ i = .int .i64 ((r : Int) - 1) ∧ v = .slice Av (n + 1 + pd + k) cv ∧ wx.ownsRow (w.heap.size + 1) 5 1 (.slice Av (n + 1 + pd + k) cv) (n + 1 + pd + k) (Ny (cur32 xs pd n k)) ∧ Below (w.heap.size + 1) (w.alloc (.cells (KdL32 A B).toArray 53)) wx) (fun _ i _ => ((intOf i) + 1).toNat)
      case atStart => exact ⟨8, 0, Av, cv, rfl, rfl, rfl, by rw [cur32_zero]; exact HOWN.out, HBB.out⟩
      case round =>
        obtain ⟨r, k, Av, cv, hk, rfl, rfl, hown, hbb⟩ := hrel
        have HOWN := Lib.hid hown
        have HBB := Lib.hid hbb
        clear hown hbb
        cases r with
        | succ m =>
          have em : ((m + 1 : Nat) : Int) - 1 = (m : Int) := by omega
          rw [em]
          clear em
          have hlb := lnget32 n k m hk
          have hltk := cur32_succ xs pd n (k := k) (by omega)
          generalize (ln32 n).getD k 0 = lb at *
          have HLTK := Lib.hid hltk
          clear hltk
          by_cases h8 : 8 ≤ m
          · omega
          · rw [if_neg h8] at hlb
            have i8 : decide ((8 : Int) ≤ (m : Int)) = false := by simp; omega
            have hby : (n : Int) * 8 / 2 ^ (8 * m) % 256 = (lb : Int) := by
              rw [hlb]
              have e : (n : Int) * 8 / 2 ^ (8 * m) = ((n * 8 / 2 ^ (8 * m) : Nat) : Int) := by push_cast; rfl
              rw [e]
              omega
            have HLB := Lib.hid hlb
            clear hlb
            have hsz := HBB.out.size
            simp at hsz
            have HSZ := Lib.hid hsz
            clear hsz
            go_wp2_with (at_builtin; refine wpList_append_rd _ rfl (.tmp 48) (.tmp 54) 22 rfl (w.heap.size + 1) 5 i0 (.int .u8 0) 1 Tryd.underlying22 HI.out HZ0.out HZ1.out HZ2.out rfl (.slice Av (n + 1 + pd + k) cv) (n + 1 + pd + k) (Ny (cur32 xs pd n k)) rfl (HOWN.out.alloc _) (fun j => j = wr.heap.size) (some ⟨wr.heap.size, 0, none⟩) 1 1 (Ny [lb]) rfl (Rd.lit wr (Ny [lb]) _ _ rfl 1 rfl) (Ny_one _) (by unfold maxLen; omega) (by omega) (by have := HSZ.out; simp; omega) ?_)
            intro v3 w3 hownN hgN _
            have hbN : Below (w.heap.size + 1) (w.alloc (.cells (KdL32 A B).toArray 53)) w3 := (HBB.out.alloc (by have := HSZ.out; omega) _).grown hgN (by have := HSZ.out; simp; omega) (fun j hj => (HOWN.out.lt j hj).1)
            rw [← Ny_append] at hownN
            clear hby
            obtain ⟨A3, c3, rfl⟩ := own_slice hownN
            rw [← HLTK.out] at hownN
            have HO3 := Lib.hid hownN
            have HB3 := Lib.hid hbN
            clear hownN hgN hbN HSZ i8
            go_wp2_with fail
            go_roundw
            case rel => exact ⟨m, k + 1, A3, c3, by omega, rfl, rfl, HO3.out, HB3.out⟩
            case measure => simp [intOf]
        | zero =>
          obtain rfl : k = 8 := by omega
          have hrw := HROW0.out.below HBB.out (by omega)
          have d1 := hrw.cell (k := 1) rfl
          clear hrw
          go_upto_region 12 with fail
          have hown := HOWN.out
          have hmsg : cur32 xs pd n 8 = msg32 xs := by
            have h := cur32_all xs
            rw [HL.out, HPD.out] at h
            exact h
          rw [hmsg] at hown
          have hlen := msg32_len xs
          rw [HL.out, HPD.out] at hlen
          have hmod := msg32_mod xs
          obtain ⟨g, c0, hv, hgb, hgl⟩ := hown.form (by omega)
          simp only [Value.slice.injEq] at hv
          obtain ⟨rfl, -, rfl⟩ := hv
          have hcs := hown.cells (g := g) rfl
          have hcap := own_cap hown
          rw [Ny_len] at hcap
          have hrg : wr.rangeAt g 0 (Ny (msg32 xs)) := fun j v hj => by
            have h := hcs j v hj
            have e : (⟨g, 0, none⟩ : Addr).add j = ⟨g, j, none⟩ := by unfold Addr.add; split <;> simp_all
            rw [e] at h
            rwa [Nat.zero_add]
          have hmlt := msg32_lt HX.out
          clear hmsg hown hcs HOWN
          generalize hM : msg32 xs = M at *
          have HM := Lib.hid hM
          clear hM
          have hK : M.length / 64 * 64 = n + 1 + pd + 8 := by omega
          have hfcr := (HFC.out.alloc (.cells (KdL32 A B).toArray 53)).below HBB.out (by have := HFC.out.lt; omega)
          have hst0 : wr.rangeAt A 0 (Vs32 (hf32 0 ini32 M).list) := rowmid32 hfcr 0 (by rfl)
          have hal := hfcr.lt
          have HKK := Lib.hid hK
          have HLEN := Lib.hid hlen
          have HCAP := Lib.hid hcap
          have HRG := Lib.hid hrg
          have HST0 := Lib.hid hst0
          have HMLT := Lib.hid hmlt
          have HGL := Lib.hid hgl
          have HAL := Lib.hid hal
          clear hK hlen hcap hrg hst0 hmlt hgl hgb hal hfcr hmod
          go_wp2_with fail
          clear d1
          go_loopg [9, 5] (M.length / 64) (fun gh v m wy => ∃ (r q p ch c : Nat) (Am : Option Addr), r = gh ∧ (q + r) * 64 = M.length ∧ v = .slice (some ⟨p, 0, none⟩) 8 ch ∧ m = .slice Am (r * 64) c ∧ (0 < r → Am = some ⟨g, q * 64, none⟩) ∧ r * 64 ≤ c ∧ wy.rangeAt p 0 (Vs32 (hf32 q ini32 M).list) ∧ p < wy.heap.size ∧ wy.rangeAt g 0 (Ny M) ∧ g < wy.heap.size ∧ Below (w.heap.size + 1) (w.alloc (.cells (KdL32 A B).toArray 53)) wy)
          case atStart => exact ⟨_, 0, A, 8, _, _, rfl, by have := HKK.out; have := HLEN.out; omega, rfl, by rw [HKK.out], fun _ => rfl, by have := HKK.out; have := HLEN.out; have := HCAP.out; omega, HST0.out, HAL.out, HRG.out, HGL.out, HBB.out⟩
          case round =>
            obtain ⟨r, q, p, ch, c, Am, rfl, hqr, rfl, rfl, ham, hc, hst, hpl, hrg, hgl, hbb⟩ := hrel
            have HST := Lib.hid hst
            have HPL := Lib.hid hpl
            have HRG := Lib.hid hrg
            have HGL := Lib.hid hgl
            have HBB := Lib.hid hbb
            have HQR := Lib.hid hqr
            clear hst hpl hrg hgl hbb hqr
            cases r with
            | zero =>
              rw [Nat.zero_mul]
              have hq : M.length / 64 = q := by have := HQR.out; omega
              have HQ := Lib.hid hq
              clear hq ham hc
              have hok := hf32_ok q ini32 M ini32_ok
              have hst := HST.out
              clear HST HST0
              generalize hs : hf32 q ini32 M = s at *
              have HS := Lib.hid hs
              have HOK := Lib.hid hok
              have HST := Lib.hid hst
              obtain ⟨wo, rfl⟩ : ∃ wo : World, wo = wr := ⟨_, rfl⟩
              have hbw : Below w.heap.size w wo := ((Below.refl w.heap.size w).alloc (Nat.le_refl _) _).trans (HBB.out.mono (Nat.le_succ _))
              have HBW := Lib.hid hbw
              clear hs hok hst hbw
              go_wp2_with fail
              go_loopw [10, 11] (fun o i wy => ∃ k : Nat, k ≤ 8 ∧ i = .int .i64 k ∧ wy.ownsRow wo.heap.size 5 1 o (k * 4) (Ny (oy32 s (k * 4))) ∧ Below wo.heap.size wo wy) (fun _ i _ => 8 - (intOf i).toNat)
              case atStart => exact ⟨0, by decide, rfl, World.ownsRow_nil _ _ _ _, Below.refl _ _⟩
              case round =>
                obtain ⟨k, hk, rfl, hown, hbx⟩ := hrel
                by_cases hlt : k < 8
                · have b5 : (k : Int) < 8 := by omega
                  have b6 : (0 : Int) ≤ (k : Int) := by omega
                  have c0 := (HROW0.out.below (HBB.out.trans (hbx.mono (by have := HBB.out.size; simpa using this))) (by omega)).cell (k := 0) rfl
                  have HOWN := Lib.hid hown
                  have HBX := Lib.hid hbx
                  clear hown hbx
                  go_wp2_with fail
                  clear c0
                  go_loopw [10, 12] (fun o j wz => ∃ m t : Nat, m + t = 4 ∧ j = .int .i64 (8 * (m : Int) - 8) ∧ wz.ownsRow wo.heap.size 5 1 o (k * 4 + t) (Ny (oy32 s (k * 4 + t))) ∧ Below wo.heap.size wo wz) (fun _ j _ => ((intOf j) + 8).toNat)
                  case atStart => exact ⟨4, 0, rfl, rfl, HOWN.out, HBX.out⟩
                  case round =>
                    obtain ⟨m, t, hm, rfl, hown, hbx⟩ := hrel
                    obtain ⟨Av, cv, rfl⟩ := own_slice hown
                    cases m with
                    | zero =>
                      obtain rfl : t = 4 := by omega
                      have e : k * 4 + 4 = (k + 1) * 4 := by omega
                      rw [e] at hown
                      have HOWN := Lib.hid hown
                      have HBX := Lib.hid hbx
                      clear hown hbx
                      rw [e]
                      go_wp2_with fail
                      go_roundw
                      case rel => exact ⟨k + 1, by omega, rfl, HOWN.out, HBX.out⟩
                      case measure => simp [intOf]; omega
                    | succ m =>
                      have em : 8 * ((m + 1 : Nat) : Int) - 8 = 8 * (m : Int) := by omega
                      rw [em]
                      clear em
                      have c1 := rg32 (range32_below HST.out hbx HPL.out) (k := k) hlt
                      have hso := oy32_succ s (k * 4 + t)
                      have hby := sbyat32 s.list k t m hm
                      generalize s.list.getD k 0 = x at *
                      generalize sby32 s.list (k * 4 + t) = lb at *
                      have HSO := Lib.hid hso
                      have b7 : (0 : Int) ≤ 8 * (m : Int) := by omega
                      have HOWN := Lib.hid hown
                      have HBX := Lib.hid hbx
                      clear hown hbx hso
                      have HSZ := Lib.hid HBX.out.size
                      go_wp2_with (at_builtin; refine wpList_append_rd _ rfl (.tmp 81) (.tmp 89) 22 rfl wo.heap.size 5 i0 (.int .u8 0) 1 Tryd.underlying22 HI.out HZ0.out HZ1.out HZ2.out rfl (.slice Av (k * 4 + t) cv) (k * 4 + t) (Ny (oy32 s (k * 4 + t))) rfl (HOWN.out.alloc _) (fun j => j = wr.heap.size) (some ⟨wr.heap.size, 0, none⟩) 1 1 (Ny [lb]) rfl (Rd.lit wr (Ny [lb]) _ _ rfl 1 rfl) (Ny_one _) (by unfold maxLen; omega) (by omega) (by have := HSZ.out; simp; omega) ?_)
                      intro v2 w2 hownN hgN _
                      have hbN : Below wo.heap.size wo w2 := (HBX.out.alloc HSZ.out _).grown hgN (by have := HSZ.out; simp; omega) (fun j hj => (HOWN.out.lt j hj).1)
                      rw [← Ny_append, ← HSO.out] at hownN
                      obtain ⟨A3, c3, rfl⟩ := own_slice hownN
                      have HO3 := Lib.hid hownN
                      have HB3 := Lib.hid hbN
                      clear hownN hgN hbN hby
                      go_wp2_with fail
                      go_roundw
                      case rel =>
                        exact ⟨m, t + 1, by omega, rfl, HO3.out, HB3.out⟩
                      case measure => simp [intOf]; omega
                · obtain rfl : k = 8 := by omega
                  go_wp2_with fail
                  go_ret
                  rw [HM.out, HQ.out, HS.out]
                  refine ⟨_, rfl, ?_, HBW.out.trans (hbx.mono HBW.out.size)⟩
                  have ho := own_base hown HBW.out.size
                  rwa [oy32_tabs] at ho
            | succ r =>
              obtain rfl := ham (by omega)
              clear ham
              have hb : decide ((0 : Int) < ((r : Int) + 1) * 64) = true := by simp; omega
              have hc64 : (64 : Int) ≤ (c : Int) := by omega
              have hrw := HROW0.out.below HBB.out (by omega)
              have hrow := hrw.drewN 1
              have HROW := Lib.hid hrow
              have KI := Lib.hid kdInfo32
              have hrcw := ((HRC.out.alloc (.cells (KdL32 A B).toArray 53)).below HBB.out (by have := HRC.out.lt; omega)).drewN 1
              have hpart : ((M.drop (q * 64)).take 64).length = 64 := by
                have := HQR.out
                rw [List.length_take, List.length_drop]
                omega
              have hpx : ∀ x ∈ (M.drop (q * 64)).take 64, x < 256 := fun x hx => HMLT.out x (List.mem_of_mem_drop (List.mem_of_mem_take hx))
              have HRCW := Lib.hid hrcw
              have HPART := Lib.hid hpart
              have HPX := Lib.hid hpx
              clear hrw hrow hrcw hpart hpx
              go_upto_region 14 with fail
              refine wp_region_any (by kernel_rfl) ?_
              change wpAny _ _ _ _ _ _ _ (World.drew _)
              refine wpAny_of_held (S := (fun w' : World => Row w' w.heap.size 53 (KdL32 A B))) _ _ _ _ ?_
              have hHeld := HROW.out
              refine wpAnyH_take (i := 0) (v := .agg (KdL32 A B).toArray) rfl (by kernel_rfl) (by kernel_rfl) (by kernel_rfl) (fun _ _ _ h => h) (yieldsIf_load_mid (by rfl) 53 (.tmp 2) rfl w.heap.size 0 rfl (KdL32 A B) _ (fun w' hSw => hSw.range) (by rfl) rfl KI.out) hHeld ?_
              change wpAnyH _ _ _ _ _ _ _ (Act.put _ (some 61) _) _
              simp only [Act.put, List.setIfInBounds_toArray, List.set_cons_zero, List.set_cons_succ]
              refine wpAnyH_take (i := 1) (v := ?_) rfl (by kernel_rfl) (by kernel_rfl) (by kernel_rfl) (fun _ _ _ h => h) (Or.inl ⟨by rfl, ?_⟩) hHeld ?_
              rotate_left
              · (intro w' hSw; go_simp; try (with_reducible rfl))
              change wpAnyH _ _ _ _ _ _ _ (Act.put _ (some 62) _) _
              simp only [Act.put, List.setIfInBounds_toArray, List.set_cons_zero, List.set_cons_succ]
              refine wpAnyH_take (i := 2) (v := ?_) rfl (by kernel_rfl) (by kernel_rfl) (by kernel_rfl) (fun _ _ _ h => h) (Or.inl ⟨by rfl, ?_⟩) hHeld ?_
              rotate_left
              · (intro w' hSw; go_simp; try (with_reducible rfl))
              change wpAnyH _ _ _ _ _ _ _ (Act.put _ (some 63) _) _
              simp only [Act.put, List.setIfInBounds_toArray, List.set_cons_zero, List.set_cons_succ]
              refine wpAnyH_take (i := 3) (v := ?_) rfl (by kernel_rfl) (by kernel_rfl) (by kernel_rfl) (fun _ _ _ h => h) (Or.inl ⟨by rfl, ?_⟩) hHeld ?_
              rotate_left
              · (intro w' hSw; go_simp; try (with_reducible rfl))
              change wpAnyH _ _ _ _ _ _ _ (Act.put _ (some 64) _) _
              simp only [Act.put, List.setIfInBounds_toArray, List.set_cons_zero, List.set_cons_succ]
              refine wpAnyH_take (i := 4) (v := ?_) rfl (by kernel_rfl) (by kernel_rfl) (by kernel_rfl) (fun _ _ _ h => h) (Or.inl ⟨by rfl, ?_⟩) hHeld ?_
              rotate_left
              · (intro w' hSw; go_simp; try (with_reducible rfl))
              change wpAnyH _ _ _ _ _ _ _ (Act.put _ (some 65) _) _
              simp only [Act.put, List.setIfInBounds_toArray, List.set_cons_zero, List.set_cons_succ]
              refine wpAnyH_ready (rs := [5]) (by kernel_rfl) (by simp) ?_
              refine AllReadyH.cons rfl (fun K hK => ?_) AllReadyH.nil
              rw [if_pos (by kernel_rfl)]
              go_simp
              refine (block32 A B p ch g (q * 64) c (hf32 q ini32 M) ((M.drop (q * 64)).take 64) _ (hf32_ok q _ _ ini32_ok) HPART.out HPX.out HRCW.out HST.out HPL.out (rgcut32 HRG.out _ _) HGL.out).mono ?_
              rintro e w3 ⟨v3, rfl, hown3, hb3⟩
              refine hK.out _ _ (hHeld.belowAll hb3) (fun hHeld => ?_)
              clear hK K
              have HOWN3 := Lib.hid hown3
              have HB3 := Lib.hid hb3
              clear hown3 hb3
              refine wpAnyH_ready (rs := [6]) (by kernel_rfl) (by simp) ?_
              refine AllReadyH.cons rfl (fun K hK => ?_) AllReadyH.nil
              rw [if_pos (by kernel_rfl)]
              go_simp
              refine hK.out _ _ hHeld (fun hHeld => ?_)
              clear hK K
              refine wpAnyH_done (by kernel_rfl) ?_ _
              have hh := HOWN3.out
              obtain ⟨p3, c3, rfl, hp3b, hp3l⟩ := hh.form (by decide)
              have hcs3 := hh.cells (g := p3) rfl
              have hst3 : w3.rangeAt p3 0 (Vs32 (hf32 (q + 1) ini32 M).list) := fun j v hj => by
                rw [hf32_succ] at hj
                have h := hcs3 j v hj
                have e : (⟨p3, 0, none⟩ : Addr).add j = ⟨p3, j, none⟩ := by unfold Addr.add; split <;> simp_all
                rw [e] at h
                rwa [Nat.zero_add]
              have hsz : w.heap.size + 1 ≤ wr.heap.size := by
                have := HBB.out.size
                simpa using this
              have hbb3 : Below (w.heap.size + 1) (w.alloc (.cells (KdL32 A B).toArray 53)) w3 := (below_drewN HBB.out 1).trans (HB3.out.mono hsz)
              have hrg3 : w3.rangeAt g 0 (Ny M) := range32_below (w := wr.drewN 1) HRG.out HB3.out HGL.out
              have hgl3 : g < w3.heap.size := Nat.lt_of_lt_of_le HGL.out HB3.out.size
              have HST3 := Lib.hid hst3
              have HBB3 := Lib.hid hbb3
              have HRG3 := Lib.hid hrg3
              have HGL3 := Lib.hid hgl3
              have HP3 := Lib.hid hp3l
              have hqr := HQR.out
              clear hh hcs3 hst3 hsz hbb3 hrg3 hgl3 hp3l hp3b hb HOWN3
              have hn64 : (64 : Int) ≤ ((r : Int) + 1) * 64 := by omega
              by_cases hcc : c = 64
              · obtain rfl : r = 0 := by omega
                subst hcc
                go_wp2_with fail
                go_roundg 0
                case measure => omega
                case rel =>
                  exact ⟨0, q + 1, p3, c3, 0, some ⟨g, q * 64, none⟩, rfl, by omega, rfl, by rw [Nat.zero_mul], fun h => absurd h (by omega), by omega, HST3.out, HP3.out, HRG3.out, HGL3.out, HBB3.out⟩
              · have hcl : (64 : Int) < (c : Int) := by omega
                go_wp2_with fail
                go_roundg r
                case measure => omega
                case rel =>
                  have e1 : (r + 1) * 64 - 64 = r * 64 := by omega
                  have e2 : q * 64 + 64 = (q + 1) * 64 := by omega
                  rw [e1, e2]
                  exact ⟨r, q + 1, p3, c3, c - 64, _, rfl, by omega, rfl, rfl, fun _ => rfl, by omega, HST3.out, HP3.out, HRG3.out, HGL3.out, HBB3.out⟩

end Go.Proofs.YtcdfbcpcgkcojaaDoor
