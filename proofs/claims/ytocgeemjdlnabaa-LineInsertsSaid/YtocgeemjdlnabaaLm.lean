/- line.Merge, line.Names, line.Common; the document's Names. -/
import Derived.Test.YtocgeemjdlnabaaLl
namespace Go.Proofs.Ytocgeemjdlnabaa
set_option maxRecDepth 100000
set_option linter.unusedSimpArgs false
set_option linter.unusedVariables false
open Go.RowKit

theorem dn_So (D : List Mk) : dnM (SrtM D) D.length = So D := by
  refine So_of (dn_ascM (Srt_ascM D) (k := D.length) (by rw [Srt_lenM]; omega)).1 fun x => ?_
  rw [dn_memM (by rw [Srt_lenM]; omega), List.take_of_length_le (by rw [Srt_lenM]; omega), Srt_memM]
theorem sort_So (A : Option Addr) (n c : Nat) (D : List Mk) (w : World) (hr : RdHM w A n D) (hn : n ≤ 1000000) :
    Calls Try.prog 11 #[.slice A n c] w fun e w' => ∃ v, e = .returned v ∧ w'.ownsRow w.heap.size 26 33 v (So D).length (flatM (So D)) ∧ Below w.heap.size w w' := by
  have h := sort_anyM A n c D w hr hn
  rw [← hr.1, dn_So] at h
  rw [← hr.1]
  exact h
theorem RdHM.cons2 {w : World} {a1 a2 : Option Addr} {n1 n2 c1 c2 : Nat} {D1 D2 : List Mk} (h1 : RdHM w a1 n1 D1) (h2 : RdHM w a2 n2 D2) : ParsM w [.slice a1 n1 c1, .slice a2 n2 c2] [D1, D2] :=
  .cons h1 (.cons h2 (.nil w))
set_option maxHeartbeats 1600000 in
theorem merge_any (A1 A2 : Option Addr) (n1 n2 c1 c2 : Nat) (D1 D2 : List Mk) (w : World) (h1 : RdHM w A1 n1 D1) (h2 : RdHM w A2 n2 D2) (hn : n1 + n2 ≤ 1000000) :
    Calls Try.prog 20 #[.slice A1 n1 c1, .slice A2 n2 c2] w fun e w' => ∃ v, e = .returned v ∧ w'.ownsRow w.heap.size 26 33 v (So (D1 ++ D2)).length (flatM (So (D1 ++ D2))) ∧ Below w.heap.size w w' := by
  have hB1 : Below w.heap.size w (w.alloc (.cells #[.slice A1 n1 c1, .slice A2 n2 c2] 22)) := below_newE w _
  have hr := Rd.lit w [.slice A1 n1 c1, .slice A2 n2 c2] #[.slice A1 n1 c1, .slice A2 n2 c2] 22 rfl 2 rfl
  have hfl : [D1, D2].flatten = D1 ++ D2 := by simp
  have hl : (D1 ++ D2).length ≤ 1000000 := by rw [List.length_append, h1.1, h2.1]; exact hn
  have h := catM _ [D1, D2] _ 2 2 _ ⟨hr.1, fun h0 => by obtain ⟨ad, e, _, h3, h4⟩ := hr.2 h0; exact ⟨ad, e, trivial, h3, h4⟩⟩ ((h1.keep hB1).cons2 (h2.keep hB1)) (by omega) (by rw [hfl]; exact hl)
  rw [hfl] at h
  obtain ⟨N, hN⟩ : ∃ N, N = (D1 ++ D2).length := ⟨_, rfl⟩
  rw [← hN] at h
  have hl : N ≤ 1000000 := by rw [hN]; exact hl
  clear hN
  have HCAT := Lib.hid h
  have HB1 := Lib.hid hB1
  clear h hr hB1 hfl h1 h2
  go_enter Try.func20, Try.ntmps20
  go_wp2_with fail
  refine HCAT.out.mono ?_
  rintro e W2 ⟨v, rfl, ho, hb⟩
  obtain ⟨A, c, rfl, hr⟩ := RdHM.own ho
  have HS := Lib.hid (sort_So A N c (D1 ++ D2) W2 hr hl)
  have HB2 := Lib.hid (HB1.out.trans (hb.mono HB1.out.size))
  clear ho hb hr
  go_wp2_with fail
  refine HS.out.mono ?_
  rintro e W3 ⟨v, rfl, ho, hb⟩
  have HO := Lib.hid (own_base ho HB2.out.size)
  have HB3 := Lib.hid (HB2.out.trans (hb.mono HB2.out.size))
  clear ho hb
  go_wp2_with fail
  go_ret
  exact ⟨v, rfl, HO.out, HB3.out⟩

/-- Names of marks. -/
def nms (D : List Mk) : List Hs := D.map Prod.snd
theorem own_keep {w w' : World} {B n sz : Nat} {T : TypeId} {v : Value} {xs : List Value} (h : w.ownsRow B T sz v n xs) (hb : Below w.heap.size w w') : w'.ownsRow B T sz v n xs := by
  refine ⟨h.1, h.2.imp id fun ⟨g, cap, cur, h1, h2, h3, h4⟩ => ⟨g, cap, cur, h1, h2, ?_, h4⟩⟩
  rw [hb.block g (Array.getElem?_eq_some_iff.1 h3).1]
  exact h3
theorem own_sliceZ {w : World} {B n sz : Nat} {T : TypeId} {v : Value} {xs : List Value} (h : w.ownsRow B T sz v n xs) : ∃ A c, v = .slice A n c := by
  rcases h.2 with ⟨rfl, rfl⟩ | ⟨g, cap, cur, rfl, _⟩
  · exact ⟨none, 0, rfl⟩
  · exact ⟨_, cap, rfl⟩
theorem name_info : ∃ i : TypeInfo, Try.prog.info? 24 = some i ∧ i.zero = some (.agg (List.replicate 32 (Value.int .u8 0)).toArray) ∧ i.size = 32 ∧ i.bytes = 32 := by
  refine ⟨_, rfl, ?_, ?_, ?_⟩ <;> kernel_rfl
theorem wpList_build1H {ops : Array Oper} {rest : List Oper} {o : Oper} {a : Act} {w : World} {Q : Exit → Act → World → Prop} (hgd : o.guard = none) (y : Operand) (ho : o.op = .buildSlice 32 1 #[(0, y)]) (x : Hs) (hy : a.eval y = .agg x.c.toArray)
    (h : wpList Try.prog ops Q rest (a.put o.dst (.slice (some ⟨w.heap.size, 0, none⟩) 1 1)) (w.alloc (.cells x.c.toArray 24))) : wpList Try.prog ops Q (o :: rest) a w := by
  obtain ⟨ie, hie, hz, hs, _⟩ := name_info
  refine wpList_buildSlice hgd 32 24 1 _ ho x.c.toArray ie _ Try.underlying32 hie hz (by rw [hs]; omega) (by rw [hs]; omega) ?_ h
  have hw := Great.fill_whole (s := 32) (by decide) [Value.agg x.c.toArray] ((Array.range (1 * 32)).map ((Value.agg (List.replicate 32 (Value.int .u8 0)).toArray).cells[· % (Value.agg (List.replicate 32 (Value.int .u8 0)).toArray).cells.size]!)) (fun v hv => by
    rw [List.mem_singleton] at hv
    subst hv
    show x.c.toArray.size = 32
    rw [List.size_toArray, Hs.c_len]) (by simp)
  rw [hs, Array.toList_map]
  show Instr.fill _ _ [(0, a.eval y)] = _
  rw [hy]
  refine hw.trans ?_
  simp [Value.cells]
theorem new_cells {w : World} (cs : List Value) {T : TypeId} : ∀ (j : Nat) (u : Value), cs[j]? = some u → (w.alloc (.cells cs.toArray T)).cell? ((⟨w.heap.size, 0, none⟩ : Addr).add j) = some u := fun j u hj => by
  have e : (⟨w.heap.size, 0, none⟩ : Addr).add j = ⟨w.heap.size, j, none⟩ := by unfold Addr.add; split <;> simp_all
  rw [e]
  exact (Row.new w cs T).cell hj
theorem nms_next {D : List Mk} {k : Nat} {x : Mk} (h : D[k]? = some x) : flat (nms (D.take (k + 1))) = flat (nms (D.take k)) ++ x.2.c := by
  unfold nms flat
  rw [List.take_add_one, h, List.map_append, List.flatMap_append]
  simp
theorem nms_len (D : List Mk) : (nms D).length = D.length := by unfold nms; rw [List.length_map]
theorem nms_take (D : List Mk) {k : Nat} (h : k ≤ D.length) : (nms (D.take k)).length = k := by rw [nms_len, List.length_take]; omega
theorem hs_sizeE (x : Hs) : (Try.prog.info? 24).map (·.size) = some x.c.length := by rw [x.c_len]; kernel_rfl
theorem range_one {w : World} {g o : Nat} {m : Mk} (h : w.rangeAt g o (Mk.c m)) : w.rangeAt g (o + 1) m.2.c := fun j v hv => by
  have := h (j + 1) v (by unfold Mk.c; rw [List.getElem?_cons_succ]; exact hv)
  rwa [show o + (j + 1) = o + 1 + j by omega] at this
/-- A variable that was made, and what was stored there. -/
theorem var_range (w : World) (cs vs : List Value) (T : TypeId) (hl : cs.length = vs.length) : ((w.alloc (.cells cs.toArray T)).setCells w.heap.size 0 vs).rangeAt w.heap.size 0 vs :=
  World.rangeAt_setCells_same _ _ _ _ ((Row.new w cs T).thereE (by omega))
theorem var_below (w : World) (o : Obj) (vs : List Value) : Below w.heap.size w ((w.alloc o).setCells w.heap.size 0 vs) :=
  (below_newE w o).trans ((only_setCells vs (w.alloc o) w.heap.size 0).below (by simp) fun k e => by subst e; exact Nat.le_refl _)
set_option maxHeartbeats 3200000 in
theorem names_any (A : Option Addr) (n c : Nat) (D : List Mk) (w : World) (hr : RdHM w A n D) (hn : n ≤ 1000000) :
    Calls Try.prog 13 #[.slice A n c] w fun e w' => ∃ v, e = .returned v ∧ w'.ownsRow w.heap.size 24 32 v n (flat (nms D)) ∧ Below w.heap.size w w' := by
  have hDn := hr.1
  have HR := Lib.hid hr
  obtain ⟨i, hi, hz, hs, hby⟩ := name_info
  have HI := Lib.hid hi
  have HZ := Lib.hid hz
  have HSZ := Lib.hid hs
  have HBY := Lib.hid hby
  clear hr hi hz hs hby
  go_enter Try.func13, Try.ntmps13
  go_wp2_with fail
  go_loopw [3, 8] (fun v j wr => ∃ k : Nat, k ≤ n ∧ j = .int .i64 (k : Int) ∧ wr.ownsRow w.heap.size 24 32 v k (flat (nms (D.take k))) ∧ Below w.heap.size w wr) (fun _ j _ => n - (intOf j).toNat)
  case atStart => exact ⟨0, Nat.zero_le _, rfl, World.ownsRow_nil _ _ _ _, Below.refl _ _⟩
  case round =>
    obtain ⟨k, hkn, rfl, ho, hb⟩ := hrel
    have hw : IntKind.i64.wrap ((k : Int) + 1) = ((k + 1 : Nat) : Int) := by rw [IntKind.wrap_i64]; omega
    by_cases hlt : k < n
    · have hx : D[k]? = some (D[k]'(by omega)) := List.getElem?_eq_getElem _
      generalize (D[k]'(by omega)) = x at hx
      obtain ⟨b, o, rfl, hbl, hrg⟩ := rdh_atM (HR.out.keep hb) (by omega)
      have hxr := hrg k x hx
      have hki : (k : Int) < (n : Int) := by omega
      have hki0 : (0 : Int) ≤ (k : Int) := by omega
      have HNX := Lib.hid (nms_next hx)
      have HXR := Lib.hid hxr
      have HO := Lib.hid ho
      have HB := Lib.hid hb
      have HIM := Lib.hid (hs_infoEM x)
      have HV := Lib.hid (var_range wr (Value.int .i64 0 :: List.replicate 32 (Value.int .u8 0)) (Mk.c x) 26 (by rw [Mk.c_len]; rfl))
      have HVB := Lib.hid (var_below wr (.cells (Value.int .i64 0 :: List.replicate 32 (Value.int .u8 0)).toArray 26) (Mk.c x))
      have HTH := Lib.hid ((Row.new wr (Value.int .i64 0 :: List.replicate 32 (Value.int .u8 0)) 26).thereE (o := 0) (n := (Mk.c x).toArray.size) (by rw [List.size_toArray, Mk.c_len]; exact Nat.le_refl _))
      have HMI := Lib.hid (mk_info x)
      have HAL := Lib.hid (hs_allEM x)
      have HSX := Lib.hid (hs_sizeE x.2)
      clear hx hrg hxr ho hb
      obtain ⟨A1, c1, hv1⟩ := own_sliceZ HO.out
      subst hv1
      have HB2 := Lib.hid (show Below wr.heap.size wr (((wr.alloc (.cells (Value.int .i64 0 :: List.replicate 32 (Value.int .u8 0)).toArray 26)).setCells wr.heap.size 0 (Mk.c x)).alloc (.cells x.2.c.toArray 24)) from HVB.out.alloc HVB.out.size _)
      have HOK := Lib.hid (own_keep HO.out HB2.out)
      go_wp2_with (first | (refine wpList_load_mid rfl 26 (.tmp 10) rfl b (o + k * 33) rfl (Mk.c x) _ HXR.out Try.underlying26 rfl HIM.out ?_) | (refine wpList_store_mid rfl 26 (.tmp 5) (.tmp 11) rfl wr.heap.size 0 (Mk.c x).toArray rfl rfl HTH.out HMI.out HAL.out ?_) | (refine wpList_load_mid rfl 24 (.tmp 13) rfl wr.heap.size 1 rfl x.2.c _ (range_one HV.out) Try.underlying24 rfl HSX.out ?_) | (refine wpList_build1H rfl (.tmp 14) rfl x.2 rfl ?_) | (at_builtin; refine wpList_append_rdz rfl (.tmp 12) (.tmp 15) 32 rfl w.heap.size 24 _ _ 32 32 Try.underlying32 HI.out HZ.out HSZ.out HBY.out (by simp [Value.cells]) (by omega) (.slice A1 k c1) k (flat (nms (D.take k))) rfl HOK.out (some _) 1 1 x.2.c rfl ?c0 (fun _ => ⟨_, rfl, new_cells x.2.c⟩) x.2.c_one ?c1 ?c2 ?c3 ?_))
      case c0 => rw [x.2.c_len]
      case c1 => unfold maxLen; omega
      case c2 => omega
      case c3 => exact Nat.le_trans HB.out.size HB2.out.size
      intro v' w' ho hg
      have hb2 : Below w.heap.size w w' := (HB.out.trans (HB2.out.mono HB.out.size)).grown hg (Nat.le_trans HB.out.size HB2.out.size) (fun q hq => (HOK.out.lt q hq).1)
      rw [← HNX.out] at ho
      have HO2 := Lib.hid ho
      have HBB := Lib.hid hb2
      clear ho hg hb2
      go_wp2_with fail
      go_roundw
      case rel => exact ⟨k + 1, by omega, by go_num, HO2.out, HBB.out⟩
      case measure => simp [intOf]; omega
    · obtain rfl : k = n := by omega
      have hni : ¬ (k : Int) < (k : Int) := by omega
      rw [List.take_of_length_le (by omega)] at ho
      have HO := Lib.hid ho
      have HB := Lib.hid hb
      clear ho hb
      go_wp2_with fail
      go_ret
      exact ⟨_, rfl, HO.out, HB.out⟩

end Go.Proofs.Ytocgeemjdlnabaa
