/- LineOwn's walk. -/
import Derived.Test.YtocgeemjdlnabaaLq
import Derived.Test.YtocgeemjdlnabaaLu
namespace Go.Proofs.Ytocgeemjdlnabaa
set_option maxRecDepth 100000
set_option linter.unusedSimpArgs false
set_option linter.unusedVariables false
open Go.RowKit

/-- A block of marks: each has a depth. -/
def Dep (w : World) (g n : Nat) : Prop := ∃ (T : TypeId) (cs : List Value), Row w g T cs ∧ ∀ i, i < n → ∃ d, cs[i * 33]? = some (.int .i64 d)
theorem Dep.of {w : World} {g n : Nat} {T : TypeId} {D : List Mk} {R : List Value} (h : Row w g T (flatM D ++ R)) (hn : D.length = n) : Dep w g n :=
  ⟨T, _, h, fun i hi => by
    have hx : D[i]? = some (D[i]'(by omega)) := List.getElem?_eq_getElem _
    exact ⟨(D[i]'(by omega)).1, by have := flat_atM hx R (j := 0) (v := .int .i64 (D[i]'(by omega)).1) rfl; rwa [Nat.add_zero] at this⟩⟩
theorem Dep.cell {w : World} {g n i : Nat} (h : Dep w g n) (hi : i < n) : ∃ d, w.cell? ⟨g, i * 33, none⟩ = some (.int .i64 d) := by
  obtain ⟨T, cs, hr, hd⟩ := h
  obtain ⟨d, e⟩ := hd i hi
  exact ⟨d, hr.cell e⟩
theorem Dep.free {w : World} {g n : Nat} (h : Dep w g n) (o : Nat) : w.frozen? ⟨g, o, none⟩ = false := by
  obtain ⟨T, cs, hr, hd⟩ := h
  exact hr.free o
theorem Dep.set {w : World} {g n : Nat} (h : Dep w g n) (o : Nat) (v : Value) (hv : ∃ d, v = .int .i64 d) : Dep (w.setCell ⟨g, o, none⟩ v) g n := by
  obtain ⟨T, cs, hr, hd⟩ := h
  refine ⟨T, _, hr.set o v, fun i hi => ?_⟩
  obtain ⟨d, e⟩ := hd i hi
  by_cases ho : o = i * 33
  · subst ho
    obtain ⟨d', rfl⟩ := hv
    exact ⟨d', by rw [List.getElem?_set_self (List.getElem?_eq_some_iff.1 e).1]⟩
  · exact ⟨d, by rw [List.getElem?_set_ne ho]; exact e⟩
theorem Dep.other {w : World} {g g' n : Nat} (hne : g ≠ g') (h : Dep w g n) (o : Nat) (v : Value) (hv : ∃ d, v = .int .i64 d) : Dep (w.setCell ⟨g', o, none⟩ v) g n := by
  obtain ⟨T, cs, hr, hd⟩ := h
  exact ⟨T, cs, hr.setCell hne v, hd⟩
theorem below_set {B : Nat} {w0 w : World} {g : Nat} (h : Below B w0 w) (hg : B ≤ g) (hB : B ≤ w.heap.size) (o : Nat) (v : Value) : Below B w0 (w.setCell ⟨g, o, none⟩ v) :=
  h.trans ((only_setCells [v] w g o).below hB fun k e => by subst e; exact hg)
set_option maxHeartbeats 6400000 in
theorem own_walk (A : Option Addr) (n c : Nat) (D : List Mk) (m : Mk) (w : World) (hr : RdHM w A n D) :
    Calls Try.prog 7 #[.slice A n c, .agg (Mk.c m).toArray] w fun e w' => e = .returned (.bool true) ∧ Below w.heap.size w w' := by
  have HA := Lib.hid awake18
  have HB0 := Lib.hid (below_newE w (.cells (Mk.c m).toArray 26))
  by_cases h60 : 60 < n
  · have h60i : (60 : Int) < (n : Int) := by omega
    clear hr
    generalize (Mk.c m).toArray = x at *
    go_enter Try.func7, Try.ntmps7
    go_wp2_with fail
    refine (HA.out _).mono ?_
    rintro e w' ⟨rfl, hb⟩
    have HB := Lib.hid (HB0.out.trans (hb.mono HB0.out.size))
    clear hb
    go_wp2_with fail
    go_ret
    exact ⟨rfl, HB.out⟩
  have h60i : ¬ (60 : Int) < (n : Int) := by omega
  have R1 := Row.new w (Mk.c m) 26
  have hs0 : (w.alloc (.cells (Mk.c m).toArray 26)).heap.size = w.heap.size + 1 := by simp
  have HR0 := Lib.hid (hr.keep HB0.out)
  have HM0 := Lib.hid (show (w.alloc (.cells (Mk.c m).toArray 26)).rangeAt w.heap.size 0 (Mk.c m) from fun j v hv => R1.cell (by rw [Nat.zero_add]; exact hv))
  have HIM := Lib.hid (hs_infoEM m)
  clear hr R1
  obtain ⟨i, hi, hz, hs, hby⟩ := hash_infoM
  have HI := Lib.hid hi
  have HZ := Lib.hid hz
  have HSZ := Lib.hid hs
  have HBY := Lib.hid hby
  clear hi hz hs hby
  go_enter Try.func7, Try.ntmps7
  go_wp2_with fail
  generalize hW0 : (w.alloc (.cells (Mk.c m).toArray 26)) = W0 at *
  have HMM := Lib.hid (fun (w' : World) (h : Below W0.heap.size W0 w') => range_below HM0.out h (by omega))
  have hDn := HR0.out.1
  refine (rsort_any A n c D W0 HR0.out (by omega)).mono ?_
  rintro e W1 ⟨A1, n1, c1, rfl, hr1, hp1, hnc1, hb1⟩
  have hn1 : n1 ≤ 60 := by
    have h1 := hr1.1
    have h2 := So_len D
    omega
  have hl1 := hr1.1
  have HR1 := Lib.hid hr1
  have HB1 := Lib.hid hb1
  have HBE := Lib.hid (below_newE W1 (.cells #[] 26))
  have HO0 := Lib.hid (own0 W1 (Nat.le_refl _))
  have HC1 := Lib.hid (hr1.keep HBE.out).cells
  have HL1 := Lib.hid (show (flatM (So D)).length = n1 * 33 by rw [flat_lengthM, hl1])
  clear hr1 hb1
  go_wp2_with (first | (refine wpList_build0 rfl rfl ?_) | (at_builtin; refine wpList_append_rdz rfl (.tmp 19) (.tmp 20) 22 rfl W1.heap.size 26 _ _ 33 40 Try.underlying22 HI.out HZ.out HSZ.out HBY.out (by simp [Value.cells]) (by omega) _ 0 [] rfl HO0.out A1 n1 c1 (flatM (So D)) rfl HL1.out HC1.out (flat_oneM _) (by unfold maxLen; omega) (by omega) HBE.out.size ?_))
  intro v2 W2 ho2 hg2
  have hb2 : Below W1.heap.size W1 W2 := HBE.out.grown hg2 HBE.out.size (fun q hq => (HO0.out.lt q hq).1)
  try simp only [Nat.zero_add, List.nil_append] at ho2
  obtain ⟨A2, c2, rfl, hr2⟩ := RdHM.own ho2
  have HR2 := Lib.hid hr2
  have HR12 := Lib.hid (HR1.out.keep hb2)
  have HB2 := Lib.hid (HB1.out.trans (hb2.mono HB1.out.size))
  have HI3 := Lib.hid (insert_any A1 n1 c1 (So D) m W2 HR12.out hp1 hnc1 (So_asc D) (by omega))
  clear ho2 hg2 hb2 hr2
  go_wp2_with (refine wpList_load_mid rfl 26 (.tmp 3) rfl w.heap.size 0 rfl (Mk.c m) _ (HMM.out _ HB2.out) Try.underlying26 rfl HIM.out ?_)
  refine HI3.out.mono ?_
  rintro e W3 ⟨v3, rfl, ho3, hb3⟩
  have hmi : m ∈ ins (So D) m := (ins_mem _ _ _).2 (Or.inr rfl)
  have hlen3 := ins_len (So D) m
  obtain ⟨g3, cap3, R3, rfl, hg3, hrow3, hnc3, hcm3, _⟩ := own_rowM ho3 (List.length_pos_of_mem hmi)
  generalize hn3 : (ins (So D) m).length = n3 at hlen3 hnc3 ⊢
  have hr3 : RdHM W3 (some ⟨g3, 0, none⟩) n3 (ins (So D) m) := RdHM.rowM hrow3 hn3
  have HR13 := Lib.hid (HR12.out.keep hb3)
  have HI4 := Lib.hid (merge_any A1 (some ⟨g3, 0, none⟩) n1 n3 c1 cap3 (So D) (ins (So D) m) W3 HR13.out hr3 (by omega))
  have HROW3 := Lib.hid hrow3
  have HB3 := Lib.hid hb3
  have hg3lt := hrow3.lt
  clear ho3 hb3 hrow3 hr3
  go_wp2_with fail
  refine HI4.out.mono ?_
  rintro e W4 ⟨v4, rfl, ho4, hb4⟩
  have hm4 : m ∈ So (So D ++ ins (So D) m) := (So_mem _ _).2 (List.mem_append.2 (Or.inr hmi))
  have hlen4 := So_len (So D ++ ins (So D) m)
  rw [List.length_append] at hlen4
  obtain ⟨g4, cap4, R4, rfl, hg4, hrow4, hnc4, hcm4, _⟩ := own_rowM ho4 (List.length_pos_of_mem hm4)
  generalize hn4 : (So (So D ++ ins (So D) m)).length = n4 at hlen4 hnc4 ⊢
  have hg34 : g3 ≠ g4 := by omega
  have hg43 : g4 ≠ g3 := by omega
  have HD3 := Lib.hid (Dep.of (HROW3.out.belowAll hb4) hn3)
  have HD4 := Lib.hid (Dep.of hrow4 hn4)
  have HBS0 := Lib.hid (HB3.out.trans (hb4.mono HB3.out.size))
  have HBS := Lib.hid HBS0.out
  have hs32 := HB3.out.size
  clear ho4 hb4 hrow4 HROW3 hmi hm4
  have hgb3 : W2.heap.size ≤ g3 := hg3
  have hgb4 : W2.heap.size ≤ g4 := by omega
  go_wp2_with fail
  go_loopw [11] (fun j wr => ∃ k : Nat, k ≤ n3 ∧ j = .int .i64 (k : Int) ∧ Dep wr g3 n3 ∧ Dep wr g4 n4 ∧ Below W2.heap.size W2 wr) (fun j _ => n3 - (intOf j).toNat)
  case atStart => exact ⟨0, by omega, rfl, HD3.out, HD4.out, HBS.out⟩
  case round =>
    obtain ⟨k, hkn, rfl, hd3, hd4, hb⟩ := hrel
    by_cases hlt : k < n3
    · have hki : (k : Int) < (n3 : Int) := by omega
      have hki0 : (0 : Int) ≤ (k : Int) := by omega
      have hw : IntKind.i64.wrap ((k : Int) + 1) = ((k + 1 : Nat) : Int) := by rw [IntKind.wrap_i64]; omega
      obtain ⟨d, hc⟩ := hd3.cell hlt
      have hfr := hd3.free (k * 33)
      have HD3 := Lib.hid (fun v (hv : ∃ d, v = Value.int .i64 d) => hd3.set (k * 33) v hv)
      have HD4 := Lib.hid (fun v (hv : ∃ d, v = Value.int .i64 d) => hd4.other hg43 (k * 33) v hv)
      have HB := Lib.hid hb
      clear hd3 hd4 hb
      go_wp2_with fail
      go_roundw
      case rel => exact ⟨k + 1, by omega, by go_num, HD3.out _ ⟨_, rfl⟩, HD4.out _ ⟨_, rfl⟩, below_set HB.out hgb3 HB.out.size _ _⟩
      case measure => simp [intOf] <;> omega
    · obtain rfl : n3 = k := by omega
      have hni : ¬ (n3 : Int) < (n3 : Int) := by omega
      have HD3 := Lib.hid hd3
      have HD4 := Lib.hid hd4
      have HBS := Lib.hid hb
      clear hd3 hd4 hb
      go_wp2_with fail
      go_loopw [12] (fun j wr => ∃ k : Nat, k ≤ n4 ∧ j = .int .i64 (k : Int) ∧ Dep wr g3 n3 ∧ Dep wr g4 n4 ∧ Below W2.heap.size W2 wr) (fun j _ => n4 - (intOf j).toNat)
      case atStart => exact ⟨0, by omega, rfl, HD3.out, HD4.out, HBS.out⟩
      case round =>
        obtain ⟨k, hkn, rfl, hd3, hd4, hb⟩ := hrel
        by_cases hlt : k < n4
        · have hki : (k : Int) < (n4 : Int) := by omega
          have hki0 : (0 : Int) ≤ (k : Int) := by omega
          have hw : IntKind.i64.wrap ((k : Int) + 1) = ((k + 1 : Nat) : Int) := by rw [IntKind.wrap_i64]; omega
          obtain ⟨d, hc⟩ := hd4.cell hlt
          have hfr := hd4.free (k * 33)
          have HD3 := Lib.hid (fun v (hv : ∃ d, v = Value.int .i64 d) => hd3.other hg34 (k * 33) v hv)
          have HD4 := Lib.hid (fun v (hv : ∃ d, v = Value.int .i64 d) => hd4.set (k * 33) v hv)
          have HB := Lib.hid hb
          clear hd3 hd4 hb
          go_wp2_with fail
          go_roundw
          case rel => exact ⟨k + 1, by omega, by go_num, HD3.out _ ⟨_, rfl⟩, HD4.out _ ⟨_, rfl⟩, below_set HB.out hgb4 HB.out.size _ _⟩
          case measure => simp [intOf] <;> omega
        · obtain rfl : n4 = k := by omega
          have hni : ¬ (n4 : Int) < (n4 : Int) := by omega
          have HD3 := Lib.hid hd3
          have HD4 := Lib.hid hd4
          have HBS := Lib.hid hb
          clear hd3 hd4 hb
          have HS := Lib.hid (rsame_any A1 A2 n1 n1 c1 c2 (So D) (So D) _ (HR12.out.keep HBS.out) (HR2.out.keep HBS.out) (by omega))
          rw [decide_eq_true rfl] at HS
          go_wp2_with fail
          refine HS.out.mono ?_
          rintro e W5 ⟨rfl, hb5⟩
          have HB5 := Lib.hid (HBS.out.trans (hb5.mono HBS.out.size))
          clear hb5
          go_wp2_with fail
          refine (HA.out _).mono ?_
          rintro e W6 ⟨rfl, hb6⟩
          have HB6 := Lib.hid (HB5.out.trans (hb6.mono HB5.out.size))
          clear hb6
          go_wp2_with fail
          go_ret
          exact ⟨rfl, HB0.out.trans ((HB2.out.trans (HB6.out.mono HB2.out.size)).mono HB0.out.size)⟩
end Go.Proofs.Ytocgeemjdlnabaa
