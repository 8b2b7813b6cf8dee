/- A chain of wrapped errors is found to have an end; for chains of up to 1000 places. -/
import Derived.Test.YtaekepejeokciaaDoorErrA
import Derived.Deep.LoopGhost
namespace Go.Proofs.YtaekepejeokciaaDoor
open Go.RowKit

/-- How far endless has come: what it looks at, and the error that it keeps. -/
inductive At1 (w : World) : Value → Value → Nat → Prop
  | done (k : Value) : At1 w .nilIface k 0
  | same (ps : List Int) (c : Int) (lim : Nat) (v : Value) (h : Ch w ps c lim v) : At1 w v v (ps.length + 1)
  | kept (ps : List Int) (c : Int) (lim g : Nat) (v : Value) (cb : Array Value) (h : Ch w ps c lim v) (hg : lim ≤ g) (hb : w.heap[g]? = some (.cells cb 42 (0, 0))) : At1 w v (.iface 38 (.pointer (some ⟨g, 0, none⟩))) (ps.length + 1)

theorem At1.below {w w' : World} {a b : Value} {n : Nat} (h : At1 w a b n) (hb : Below w.heap.size w w') : At1 w' a b n := by
  cases h with
  | done => exact .done _
  | same ps c lim v h => exact .same ps c lim _ (h.below hb)
  | kept ps c lim g v cb h hg hc => exact .kept ps c lim g _ cb (h.below hb) hg ((hb.block g (Array.getElem?_eq_some_iff.1 hc).1).trans hc)

/-- One step on: what is unwrapped, and that it isn't the one that is kept. -/
theorem At1.step {w : World} {a b : Value} {n : Nat} (h : At1 w a b (n + 1)) :
    (∃ c, a = .iface 29 (.int .i64 c) ∧ n = 0 ∧ At1 w .nilIface b 0) ∨
    (∃ h p v, a = .iface 38 (.pointer (some ⟨h, 0, none⟩)) ∧ w.heap[h]? = some (.cells #[.int .i64 p, v] 42 (0, 0)) ∧ At1 w v b n ∧ At1 w v v n ∧ Differ w v b) := by
  have key : ∀ (ps : List Int) (c : Int) (lim : Nat) (v : Value), Ch w ps c lim v → ps.length = n →
      (∃ c, v = .iface 29 (.int .i64 c) ∧ n = 0) ∨ (∃ h p v' ps' c', v = .iface 38 (.pointer (some ⟨h, 0, none⟩)) ∧ h < lim ∧ w.heap[h]? = some (.cells #[.int .i64 p, v'] 42 (0, 0)) ∧ Ch w ps' c' h v' ∧ ps'.length + 1 = n) := by
    intro ps c lim v h hn
    cases ps with
    | nil => exact .inl ⟨c, h, by simpa using hn.symm⟩
    | cons p ps =>
      obtain ⟨g, v', rfl, hl, hb, hr⟩ := h
      exact .inr ⟨g, p, v', ps, c, rfl, hl, hb, hr, by simpa using hn⟩
  have diff : ∀ (g h : Nat) (v' : Value) (ps' : List Int) (c' : Int) (cb : Array Value), Ch w ps' c' h v' → h ≤ g → w.heap[g]? = some (.cells cb 42 (0, 0)) → Differ w v' (.iface 38 (.pointer (some ⟨g, 0, none⟩))) := by
    intro g h v' ps' c' cb hr hg hb
    cases ps' with
    | nil => exact .inr (.inl ⟨_, _, hr, rfl⟩)
    | cons p ps =>
      obtain ⟨g2, v2, rfl, hl2, hb2, _⟩ := hr
      exact .inr (.inr ⟨g2, g, _, cb, rfl, rfl, by omega, hb2, hb⟩)
  generalize hm : n + 1 = m at h
  cases h with
  | done => omega
  | same ps c lim v h =>
    rcases key ps c lim a h (by omega) with ⟨c, e, h0⟩ | ⟨g, p, v', ps', c', e, hl, hb, hr, hn⟩
    · exact .inl ⟨c, e, h0, .done _⟩
    · subst e hn
      exact .inr ⟨g, p, v', rfl, hb, .kept ps' c' g g v' _ hr (Nat.le_refl _) hb, .same ps' c' g v' hr, diff g g v' ps' c' _ hr (Nat.le_refl _) hb⟩
  | kept ps c lim g v cb h hg hc =>
    rcases key ps c lim a h (by omega) with ⟨c, e, h0⟩ | ⟨g2, p, v', ps', c', e, hl, hb, hr, hn⟩
    · exact .inl ⟨c, e, h0, .done _⟩
    · subst e hn
      exact .inr ⟨g2, p, v', rfl, hb, .kept ps' c' g2 g v' cb hr (by omega) hc, .same ps' c' g2 v' hr, diff g g2 v' ps' c' cb hr (by omega) hc⟩

theorem At1.iface {w : World} {a b : Value} {n : Nat} (h : At1 w a b (n + 1)) : ∃ T x, a = .iface T x := by
  rcases h.step with ⟨c, e, _⟩ | ⟨h, p, v, e, _⟩
  · exact ⟨_, _, e⟩
  · exact ⟨_, _, e⟩

set_option maxRecDepth 100000 in
set_option maxHeartbeats 2000000 in
theorem endless_any (ps : List Int) (c : Int) (lim : Nat) (v : Value) (w : World) (h : Ch w ps c lim v) (hn : ps.length ≤ 1000) :
    Calls Tryd.prog 84 #[v, .slice none 0 0] w fun e w' => e = .returned (.bool false) ∧ Below w.heap.size w w' := by
  have hs := At1.same ps c lim v h
  have h1 := noUnwraps
  have h2 := noUnwraps2
  have HS := Lib.hid hs
  clear h hs
  go_enter Tryd.func84, Tryd.ntmps84
  go_wp2_with fail
  go_loopw [0, 5, 6, 7] (fun a b s m wr => ∃ n i j : Nat, s = .int .i64 i ∧ m = .int .i64 j ∧ 1 ≤ j ∧ i < j ∧ i + j + n = ps.length + 2 ∧ At1 wr a b n ∧ Below w.heap.size w wr) (fun _ _ s m _ => ps.length + 3 - (intOf s + intOf m).toNat)
  case atStart => exact ⟨ps.length + 1, 0, 1, rfl, rfl, by omega, by omega, by omega, HS.out, Below.refl _ _⟩
  case round =>
    obtain ⟨n, i, j, rfl, rfl, hj1, hij, hsum, hat, hbel⟩ := hrel
    have HB := Lib.hid hbel
    clear hbel
    cases n with
    | zero =>
      have hu : u0 = .nilIface := by
        generalize hm : 0 = m at hat
        cases hat with
        | done => rfl
        | same ps c lim v h => omega
        | kept ps c lim g v cb h hg hc => omega
      subst hu
      clear hat
      go_wp2_with fail
      go_ret
      exact ⟨rfl, HB.out⟩
    | succ n =>
      rcases hat.step with ⟨c', rfl, hn0, hd⟩ | ⟨hb, p, v', rfl, hblk, hk, hs2, hdf⟩
      · have HD := Lib.hid hd
        clear hat hd
        go_wp2_with fail
        refine (eunwrap_code _ _).mono ?_
        rintro e w1 ⟨rfl, rfl⟩
        go_wp2_with fail
        refine (same_nil _ _).mono ?_
        rintro e w1 ⟨rfl, hb1⟩
        have HB1 := Lib.hid hb1
        clear hb1
        by_cases hq : i + 1 = j
        · have q1 : (((i : Nat) : Int) + 1 == j) = true := beq_iff_eq.2 (by omega)
          have HQ := Lib.hid hq
          have hj2 : i + j + (n + 1) = ps.length + 2 := by omega
          clear hq
          go_wp2_with fail
          go_roundw
          case rel =>
            have hq := HQ.out
            exact ⟨0, 0, 2 * j, rfl, by go_num, by omega, by omega, by omega, .done _, HB.out.trans (HB1.out.mono HB.out.size)⟩
          case measure => have hq := HQ.out; simp [intOf]; omega
        · have q1 : (((i : Nat) : Int) + 1 == j) = false := beq_eq_false_iff_ne.2 (by omega)
          go_wp2_with fail
          go_roundw
          case rel => exact ⟨0, i + 1, j, by go_num, rfl, by omega, by omega, by omega, .done _, HB.out.trans (HB1.out.mono HB.out.size)⟩
          case measure => simp [intOf]; omega
      · have HK := Lib.hid hk
        have HS2 := Lib.hid hs2
        have HDF := Lib.hid hdf
        have HBK := Lib.hid hblk
        clear hat hk hs2 hdf hblk
        go_wp2_with fail
        refine (eunwrap_at hb p v' _ HBK.out).mono ?_
        rintro e w1 ⟨rfl, rfl⟩
        go_wp2_with fail
        refine (same_any v' u5 _ HDF.out).mono ?_
        rintro e w1 ⟨rfl, hb1⟩
        have HB1 := Lib.hid hb1
        clear hb1
        by_cases hq : i + 1 = j
        · have q1 : (((i : Nat) : Int) + 1 == j) = true := beq_iff_eq.2 (by omega)
          have HQ := Lib.hid hq
          have hj2 : i + j + (n + 1) = ps.length + 2 := by omega
          clear hq
          go_wp2_with fail
          go_roundw
          case rel =>
            have hq := HQ.out
            exact ⟨n, 0, 2 * j, rfl, by go_num, by omega, by omega, by omega, HS2.out.below HB1.out, HB.out.trans (HB1.out.mono HB.out.size)⟩
          case measure => have hq := HQ.out; simp [intOf]; omega
        · have q1 : (((i : Nat) : Int) + 1 == j) = false := beq_eq_false_iff_ne.2 (by omega)
          go_wp2_with fail
          go_roundw
          case rel => exact ⟨n, i + 1, j, by go_num, rfl, by omega, by omega, by omega, HK.out.below HB1.out, HB.out.trans (HB1.out.mono HB.out.size)⟩
          case measure => simp [intOf]; omega

end Go.Proofs.YtaekepejeokciaaDoor
