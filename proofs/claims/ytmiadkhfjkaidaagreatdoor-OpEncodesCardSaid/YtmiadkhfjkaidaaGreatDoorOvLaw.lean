/-
  For any operation: what Encode and Decode make of it is what the document says, the law OpEncodes returns true, and nothing that was there is changed; no condition but the form's own reach; its one package-level variable is tied to the program's text.
-/
import Derived.Test.YtmiadkhfjkaidaaGreatDoorMg1
import Derived.Test.YtmiadkhfjkaidaaGreatDoorMg33
import Derived.Test.YtmiadkhfjkaidaaGreatDoorMg42
import Derived.Deep.SlicePairs
import Derived.ShutString
import Derived.ChangeOld
import Derived.Below
namespace Go.Proofs.YtmiadkhfjkaidaaGreatDoor.opEncodes
open Go.ChangeShapes Go.WideShapes Go.ChangeAt Go.RowKit
set_option linter.unusedVariables false

section
variable {H : Type} {enc : TypeId × Value → H} {w : World} {base : Nat} {spare : Nat → Bool} {held : Bool}
/-- A path that came in. -/
theorem trod_sts {fuel : Nat} {cs : List Value} {x : DataW H × List MemPlace} (h : DataW.trod enc Tryz.prog w base spare held fuel 22 cs = some x) :
    ∃ (a : Option Addr) (n c : Nat) (l : List Stp), cs = [.slice a n c] ∧ (n ≤ c ∧ c ≤ maxLen) ∧ Sts w a n l ∧ ∀ x ∈ l, StOk x := by
  rcases Go.Deep.open_slice_pairs Tryz.underlying22 Tryz.underlying67 (by kernel_rfl) rfl rfl (by kernel_rfl) (by kernel_rfl) h with ⟨rfl, _⟩ | ⟨a, len, cap, m, n, V0, V1, D0, D1, P0, P1, rfl, _, hl, hm, hmm, _, hc⟩
  · exact ⟨none, 0, 0, [], rfl, ⟨Nat.le_refl _, Nat.zero_le _⟩, ⟨rfl, fun h => absurd h (Nat.lt_irrefl 0)⟩, fun x hx => by cases hx⟩
  · have hlm : len ≤ m := by rw [hmm]; split <;> omega
    have each : ∀ i, i < len → ∃ y : Stp, V0 i = .string y.s ∧ V1 i = .int .u64 y.id ∧ StOk y := fun i hi => by
      obtain ⟨_, _, t0, t1⟩ := hc i (by omega)
      obtain ⟨s, e0, _, hs⟩ := DataW.trod_string Tryz.underlying9 t0
      obtain ⟨k, e1, _, hk⟩ := DataW.trod_int Tryz.underlying23 t1
      injection e0 with e0 _
      injection e1 with e1 _
      have hb := bounds_u64 hk
      exact ⟨⟨s, k⟩, e0, e1, hs, hb.1, by have := hb.2; show k < _; omega⟩
    have : Inhabited Stp := ⟨⟨ByteArray.empty, 0⟩⟩
    obtain ⟨y, hy⟩ := Go.Deep.choose_lt each
    refine ⟨some a, len, cap, (List.range len).map y, rfl, ⟨hl, hm⟩, ⟨by simp, fun hn => ⟨a, rfl, ?_, fun i x hx => ?_⟩⟩, fun x hx => ?_⟩
    · have h0 := lt_of_cell (hc 0 (by omega)).1
      rwa [add_block] at h0
    · obtain ⟨hil, hx⟩ := List.getElem?_eq_some_iff.1 hx
      have hil : i < len := by simpa using hil
      have hx : y i = x := by simpa using hx
      subst hx
      obtain ⟨c0, c1, _, _⟩ := hc i (by omega)
      rw [add_add]
      exact ⟨c0.trans (by rw [(hy i hil).1]), c1.trans (by rw [(hy i hil).2.1])⟩
    · obtain ⟨i, hi, rfl⟩ := List.mem_map.1 hx
      exact (hy i (List.mem_range.1 hi)).2.2
theorem ten {cs : List Value} (h : cs.length = 10) : ∃ a b c d e f g i j k, cs = [a, b, c, d, e, f, g, i, j, k] := by
  match cs, h with
  | [a, b, c, d, e, f, g, i, j, k], _ => exact ⟨a, b, c, d, e, f, g, i, j, k, rfl⟩
theorem c_op : Tryz.prog.cellsOf 30 = 10 := by kernel_rfl
theorem c_stps : Tryz.prog.cellsOf 22 = 1 := by kernel_rfl
theorem vat_form {w : World} {v : Vt} {cs : List Value} (h : VAt w v cs) : ∃ (k n : Int) (x : ByteArray) (a : Option Addr) (la ca : Nat) (b : Option Addr) (lb cb : Nat) (c : Option Addr) (lc cc : Nat), cs = [.int .i64 k, .int .i64 n, .string x, .slice a la ca, .slice b lb cb, .slice c lc cc] := by
  cases h
  exact ⟨_, _, _, _, _, _, _, _, _, _, _, _, rfl⟩
/-- What a reading of an operation says. -/
theorem oat_of {fuel : Nat} {cs : List Value} {x : DataW H × List MemPlace} (h : DataW.trod enc Tryz.prog w base spare held fuel 30 cs = some x) :
    ∃ (k : Int) (a : Option Addr) (n c : Nat) (l : List Stp) (id af : Int) (vk vn : Int) (vs : ByteArray) (va : Option Addr) (vla vca : Nat) (vb : Option Addr) (vlb vcb : Nat) (vc : Option Addr) (vlc vcc : Nat) (v : Vt), cs = oC k a n c id af vk vn vs va vla vca vb vlb vcb vc vlc vcc ∧ (n ≤ c ∧ c ≤ maxLen) ∧ Sts w a n l ∧ (∀ x ∈ l, StOk x) ∧ 0 ≤ id ∧ id < 18446744073709551616 ∧ 0 ≤ af ∧ af < 18446744073709551616 ∧ VAt w v (vC vk vn vs va vla vca vb vlb vcb vc vlc vcc) := by
  obtain ⟨xs, m, rfl, _, hl, hlen, hf⟩ := DataW.trod_struct Tryz.underlying30 h
  rw [c_op] at hl
  obtain ⟨c0, c1, c2, c3, c4, c5, c6, c7, c8, c9, rfl⟩ := ten hl
  obtain ⟨x0, h0⟩ := read_field hlen (hf 0 { name := "Kind", type := 3, offset := 0, embedded := false, tag := "", pkgPath := "", byteOffset := 0 } rfl) (by decide)
  obtain ⟨x1, h1⟩ := read_field hlen (hf 1 { name := "Path", type := 22, offset := 1, embedded := false, tag := "", pkgPath := "", byteOffset := 8 } rfl) (by decide)
  obtain ⟨x2, h2⟩ := read_field hlen (hf 2 { name := "Id", type := 23, offset := 2, embedded := false, tag := "", pkgPath := "", byteOffset := 32 } rfl) (by decide)
  obtain ⟨x3, h3⟩ := read_field hlen (hf 3 { name := "After", type := 23, offset := 3, embedded := false, tag := "", pkgPath := "", byteOffset := 40 } rfl) (by decide)
  obtain ⟨x4, h4⟩ := read_field hlen (hf 4 { name := "Value", type := 28, offset := 4, embedded := false, tag := "", pkgPath := "", byteOffset := 48 } rfl) (by decide)
  simp only [c_int, c_u64, c_stps, c_val, List.drop_zero, List.drop_succ_cons, List.take_succ_cons, List.take_zero, List.take_nil] at h0 h1 h2 h3 h4
  obtain ⟨k, e0, hk⟩ := read_int Tryz.underlying3 h0
  obtain ⟨a, n, c, l, e1, hnc, hS, hok⟩ := trod_sts h1
  obtain ⟨id, e2, hid⟩ := read_int Tryz.underlying23 h2
  obtain ⟨af, e3, haf⟩ := read_int Tryz.underlying23 h3
  obtain ⟨v, hV⟩ := vat_of _ _ _ h4
  obtain ⟨vk, vn, vs, va, vla, vca, vb, vlb, vcb, vc, vlc, vcc, e4⟩ := vat_form hV
  injection e0 with e0; injection e1 with e1; injection e2 with e2; injection e3 with e3
  subst e0 e1 e2 e3
  rw [e4] at hV
  injection e4 with f0 e4; injection e4 with f1 e4; injection e4 with f2 e4; injection e4 with f3 e4; injection e4 with f4 e4; injection e4 with f5 e4
  subst f0 f1 f2 f3 f4 f5
  have b1 := bounds_u64 hid
  have b2 := bounds_u64 haf
  exact ⟨k, a, n, c, l, id, af, vk, vn, vs, va, vla, vca, vb, vlb, vcb, vc, vlc, vcc, v, rfl, hnc, hS, hok, b1.1, by have := b1.2; omega, b2.1, by have := b2.2; omega, hV⟩
end
theorem reads (os : Os) {H : Type} (enc : TypeId × Value → H) : ∃ places, DataW.whole enc Tryz.prog ((laidWorld os).forCall (fun _ _ => 0) ⟨#[], #[.agg #[.int .i64 0, .slice none 0 0, .int .u64 0, .int .u64 0, .int .i64 0, .int .i64 0, .string ⟨#[]⟩, .slice none 0 0, .slice none 0 0, .slice none 0 0]], []⟩).memory Tryz.f3.params.toList Rows.opEncodesSpec.vars false #[Value.agg #[.int .i64 0, .slice none 0 0, .int .u64 0, .int .u64 0, .int .i64 0, .int .i64 0, .string ⟨#[]⟩, .slice none 0 0, .slice none 0 0, .slice none 0 0]].toList 12 = some ([.agg [.lit (.int .i64 0), .nil, .lit (.int .u64 0), .lit (.int .u64 0), .agg [.lit (.int .i64 0), .lit (.int .i64 0), .lit (.string []), .nil, .nil, .nil]]], [], places) :=
  ⟨[], by kernel_rfl⟩

set_option maxRecDepth 100000 in
theorem lifted (os : Os) (started : os.Started) (H : Type) (enc : TypeId × Value → H) (F : Stop.Interp) :
    ReturnsInHanded {} Tryz.checked os 3 .any ((OpenSpec.ofChange Rows.opEncodesSpec).preRow enc Tryz.prog Tryz.f3 Rows.opEncodesRow.domain false Rows.opEncodesRow.laid) (((OpenSpec.ofChange Rows.opEncodesSpec).at F).post enc Tryz.prog Tryz.f3 false true false false) := by
  obtain ⟨places, hx⟩ := reads os enc
  refine returnsInHanded_of_row (C := Tryz.checked) (s := OpenSpec.ofChange Rows.opEncodesSpec) own started (by kernel_rfl) Tryz.func3
    (witness_row_at (enc := enc) (C := Tryz.checked) false (laidWorld os) #[.agg #[.int .i64 0, .slice none 0 0, .int .u64 0, .int .u64 0, .int .i64 0, .int .i64 0, .string ⟨#[]⟩, .slice none 0 0, .slice none 0 0, .slice none 0 0]] rfl (by kernel_rfl) (by kernel_rfl) (by kernel_rfl)
      (OpenSpec.preRow_of_cond 12 hx (by kernel_rfl) (fun k hk => by cases hk) (by kernel_rfl) (laidWorld_met os _))) ?_
  intro W base args ds gs before hval0 hW hs1 hs2 hs3 hL hs4 hs5
  have hval : ∀ (j : Nat) t v, Tryz.f3.params[j]? = some t → args[j]? = some v → Value.okWide Tryz.prog W .any base t v := hval0
  have hW' := hW
  obtain ⟨p, q, hA0, hV, rfl, hfz, hnd⟩ := hW
  have hA : DataW.TrodAll enc Tryz.prog W 0 (fun _ => true) true Tryz.f3.params.toList args.toList ds p := hA0
  rw [Tryz.params3] at hA hval
  obtain ⟨v0, vs0, d0, ds0, p0, q0, hargs0, rfl, rfl, h0, r0⟩ := trodAll_cons hA
  obtain ⟨rfl, rfl, rfl⟩ := trodAll_nil r0
  obtain rfl : args = #[v0] := by cases args; simp_all
  obtain ⟨rfl, rfl⟩ := trodVars_none hV
  obtain ⟨c0, rfl, _⟩ := okWide_struct Tryz.underlying30 (hval 0 30 v0 rfl rfl)
  obtain ⟨l0, rfl⟩ : ∃ l : List Value, c0 = l.toArray := ⟨c0.toList, by simp⟩
  have k0 := h0
  have lt0 : ∀ x ∈ p0, x.block < W.heap.size := by obtain ⟨m, hm⟩ := k0; exact DataW.trod_lt m _ _ _ hm
  have h0' := h0
  obtain ⟨fuel, hf⟩ := h0'
  have hc : (Value.agg l0.toArray).cells.toList = l0 := by simp [Value.cells]
  rw [hc] at hf
  obtain ⟨k, pa, n, c, l, id, af, vk, vn, vs, va, vla, vca, vb, vlb, vcb, vc, vlc, vcc, v, rfl, hn, hS, hok, hi0, hi1, hf0, hf1, hV⟩ := oat_of hf
  clear hf hc
  clear hA0 hval0
  refine (oencodes_walk k pa n c l id af vk vn vs va vla vca vb vlb vcb vc vlc vcc v W awake12 hi0 hi1 hf0 hf1 (by have := hn.2; unfold maxLen at this; omega) hS hok hV (errTy_of_laid hL)).mono fun e W' ⟨he, bel⟩ => ?_
  subst he
  exact ⟨_, rfl, _, _, _, [], _, [], hW', trodAll_mk1 (shut_bool Tryz.underlying4 _), (trodAll_cons_mk (Below.trod laidOut (by kernel_rfl) (of_decide_eq_true (by kernel_rfl)) k0 bel lt0) trodAll_mk0), rfl, bel.frame _, fun h => by cases h⟩

theorem said : Rows.OpEncodesSaid :=
  OpenClaim.holds_of_cond 3 Tryz.f3 rfl rfl rfl rfl rfl rfl rfl ⟨rfl, rfl, rfl, rfl, rfl⟩ rfl rfl rfl rfl rfl (by kernel_rfl) Tryz.func3 (by kernel_rfl)
    (of_decide_eq_true (by kernel_rfl)) (by unfold Func.isWrapper; first | (rw [if_pos (by decide +kernel)]; kernel_rfl) | (rw [if_neg (by decide +kernel)]; exact ⟨rfl, rfl⟩))
    (fun os started H enc _ F => by rw [OpenClaim.pre_eq_preRow]; exact lifted os started H enc F)

/-- No parameter wants a stand-in. -/
theorem plain (f : FuncId) (fn : Func) (hf : Tryz.pinned.checked.prog.funcNamed "dioptre/dioptrelaw12.OpEncodes" = some f) (hfn : Tryz.pinned.checked.prog.funcs[f]? = some fn) :
    true = Tryz.pinned.checked.prog.looks [] ∧ ∀ (j : Nat) t, fn.params[j]? = some t → Tryz.pinned.checked.prog.wantsStandIn t = false := by
  obtain rfl : f = 3 := Option.some.inj ((show Tryz.prog.funcNamed "dioptre/dioptrelaw12.OpEncodes" = some 3 by kernel_rfl).symm.trans hf) |>.symm
  obtain rfl : fn = Tryz.f3 := (Option.some.inj (Tryz.func3.symm.trans hfn)).symm
  refine ⟨by kernel_rfl, fun j t ht => ?_⟩
  rw [Tryz.params3] at ht
  have hm : t ∈ [30] := by simpa using Array.mem_of_getElem? ht
  have hall : ([30].all fun u => !Tryz.prog.wantsStandIn u) = true := by kernel_rfl
  exact (show Tryz.prog.wantsStandIn t = false by simpa using List.all_eq_true.1 hall t hm)

theorem card : Rows.OpEncodesCardSaid :=
  Claim7.holds_tied_plain_at .later [] _ _ _ _ said (fun _ h => by cases h) (by kernel_rfl) (fun _ h => by cases h) opEncodes_row_tie rfl ⟨rfl, rfl⟩ (by kernel_rfl) rfl plain (by kernel_rfl)
#print axioms card
end Go.Proofs.YtmiadkhfjkaidaaGreatDoor.opEncodes
