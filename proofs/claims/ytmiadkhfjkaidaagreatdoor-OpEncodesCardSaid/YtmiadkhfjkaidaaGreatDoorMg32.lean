/- The document's bytes of an operation. -/
import Derived.Test.YtmiadkhfjkaidaaGreatDoorMg25
import Derived.Test.YtmiadkhfjkaidaaGreatDoorMg26
import Derived.Test.YtmiadkhfjkaidaaGreatDoorMg28
import Derived.Test.YtmiadkhfjkaidaaGreatDoorMg8
import Derived.Test.YtmiadkhfjkaidaaGreatDoorMg31
import Derived.Great.BuildSlice
namespace Go.Proofs.YtmiadkhfjkaidaaGreatDoor
section
set_option maxRecDepth 100000
set_option linter.unusedSimpArgs false
set_option linter.unusedVariables false
open Go.RowKit

theorem ex_ldO {P : Program} {o : Oper} {a : Act} {w : World} (T : TypeId) (x : Operand) (ho : o.op = .load T x) (u r : Value) (hx : a.eval x = u) (hi : (Instr.loadAt T u).run P w = .ok r w) : (execOp a.eval o).run P w = .ok (.value r) w := by
  unfold execOp
  simp only [ho, hx, Sem.run_bind, Sem.run_pure, hi, Result.andThen_ok]
theorem ld_intO {p : Addr} {n : Int} {w : World} (hc : w.cell? p = some (.int .i64 n)) : (Instr.loadAt 3 (.pointer (some p))).run Tryz.prog w = .ok (.int .i64 n) w := by go_simp
theorem ld_stpsO {p : Addr} {a : Option Addr} {n c : Nat} {w : World} (hc : w.cell? p = some (.slice a n c)) : (Instr.loadAt 22 (.pointer (some p))).run Tryz.prog w = .ok (.slice a n c) w := by go_simp
theorem wp_build1O {o : Oper} {a : Act} {w : World} {K : Act → World → Prop} {Q : Exit → Act → World → Prop} (x : Operand) (ho : o.op = .buildSlice 33 1 #[(0, x)]) (k : Int) (hx : a.eval x = .int .u8 k)
    (h : K (a.put o.dst (.slice (some ⟨w.heap.size, 0, none⟩) 1 1)) (w.alloc (.cells #[.int .u8 k] 5))) : o.wp Tryz.prog a w K Q := by
  have hi : Tryz.prog.info? 5 = some (Tryz.prog.info? 5).get! := by kernel_rfl
  have hz : (Tryz.prog.info? 5).get!.zero = some (.int .u8 0) := by kernel_rfl
  have hsz : (Tryz.prog.info? 5).get!.size = 1 := by kernel_rfl
  refine wp_buildSlice 33 5 1 _ ho #[.int .u8 k] _ _ Tryz.underlying33 hi hz (by rw [hsz]; decide) (by rw [hsz]; decide) ?_ h
  rw [hsz]
  simp only [List.map_toArray, List.map_cons, List.map_nil, hx]
  kernel_rfl
theorem wp_append_rdO {P : Program} {o : Oper} {a : Act} {w : World} {K : Act → World → Prop} {Q : Exit → Act → World → Prop} (s x : Operand) (t : TypeId)
    (ho : o.op = .call { callee := .builtin .append, args := #[s, x], argTypes := #[t, t] })
    (base : Nat) (e : TypeId) (i : TypeInfo) (z : Value) (bytes : Nat) (ht : P.underlying t = some (.slice e)) (hi : P.info? e = some i) (hz : i.zero = some z)
    (hsize : i.size = 1) (hby : i.bytes = bytes) (hzs : z.cells.size = 1)
    (v : Value) (n : Nat) (xs : List Value) (hs : a.eval s = v) (hown : w.ownsRow base e 1 v n xs)
    (F : Nat → Prop) (A : Option Addr) (m c : Nat) (news : List Value) (hx : a.eval x = .slice A m c) (hr : Rd w F A m news) (h1 : ∀ u ∈ news, u.oneCell' = true)
    (h63 : n + m ≤ maxLen) (hbytes : (n + m) * bytes ≤ 140737488355328) (hbase : base ≤ w.heap.size)
    (h : ∀ v' w', w'.ownsRow base e 1 v' (n + m) (xs ++ news) → w.grownBy w' v.ownBlock → K (a.put o.dst v') w') : o.wp P a w K Q := by
  obtain ⟨v', w', hrun, h2, h3, h4⟩ := append_rd (P := P) w base t o.type e i z bytes ht hi hz hsize hby hzs v n xs hown F A m c news hr h1 h63 hbytes hbase
  unfold Oper.wp execOp
  simp only [ho, resolve, invoke, builtin, Sem.run_bind, Sem.run_pure, Result.andThen_ok, List.map_toArray, List.map_cons, List.map_nil, hs, hx, hrun]
  exact h v' w' h2 h3
theorem own_oneO (w : World) (k : Nat) (hk : k < 128) : (w.alloc (.cells #[.int .u8 (k : Int)] 5)).ownsRow w.heap.size 5 1 (.slice (some ⟨w.heap.size, 0, none⟩) 1 1) 1 (Bs [UInt8.ofNat k]) :=
  own_lit w [UInt8.ofNat k] _ (low_last hk) 1 rfl (by unfold maxLen; omega)

set_option maxHeartbeats 6400000 in
theorem obytes_1 (p : Option Addr) (n c : Nat) (vk vn : Int) (vs : ByteArray) (va : Option Addr) (vla vca : Nat) (vb : Option Addr) (vlb vcb : Nat) (vc : Option Addr) (vlc vcc : Nat) (pb : List UInt8) (hpl : pb.length ≤ 300) (w : World) (hp : ∀ wx, Below w.heap.size w wx → Calls Tryz.prog 24 #[.slice p n c] wx fun e w' => ∃ v, e = .returned v ∧ w'.ownsRow wx.heap.size 5 1 v pb.length (Bs pb) ∧ Below wx.heap.size wx w') (vbs : List UInt8) (hvl : vbs.length ≤ 400000000) (hV : ∀ wx, Below w.heap.size w wx → Calls Tryz.prog 26 #[.agg (vC vk vn vs va vla vca vb vlb vcb vc vlc vcc).toArray] wx fun e w' => ∃ x, e = .returned x ∧ w'.ownsRow wx.heap.size 5 1 x vbs.length (Bs vbs) ∧ Below wx.heap.size wx w') (KL : List UInt8) (hKL : KL = [UInt8.ofNat 1] ++ pb ++ vbs) :
    Calls Tryz.prog 9 #[.agg (oC 1 p n c 0 0 vk vn vs va vla vca vb vlb vcb vc vlc vcc).toArray] w fun e w' => ∃ x, e = .returned x ∧ w'.ownsRow w.heap.size 5 1 x KL.length (Bs KL) ∧ Below w.heap.size w w' := by
  obtain ⟨i0, hi, hz0, hz1, hz2⟩ := info_parts u8_info
  have HB0 := Lib.hid (below_newO w (.cells (oC 1 p n c 0 0 vk vn vs va vla vca vb vlb vcb vc vlc vcc).toArray 30))
  have hs0 : (w.alloc (.cells (oC 1 p n c 0 0 vk vn vs va vla vca vb vlb vcb vc vlc vcc).toArray 30)).heap.size = w.heap.size + 1 := by simp
  have hR := Row.new w (oC 1 p n c 0 0 vk vn vs va vla vca vb vlb vcb vc vlc vcc) 30
  have HKL := Lib.hid hKL
  clear hKL
  have HS0 := Lib.hid hs0
  obtain ⟨np, hnp⟩ : ∃ np, pb.length = np := ⟨_, rfl⟩
  rw [hnp] at hp hpl
  have HNP := Lib.hid hnp
  clear hnp
  go_enter Tryz.func9, Tryz.ntmps9
  go_wp2_with fail
  generalize hW0 : (w.alloc (.cells (oC 1 p n c 0 0 vk vn vs va vla vca vb vlb vcb vc vlc vcc).toArray 30)) = W0 at *
  have HRW := Lib.hid (fun (w' : World) (h : Below W0.heap.size W0 w') => hR.belowAll h)
  have HBW := Lib.hid (fun (w' : World) (h : Below W0.heap.size W0 w') => (show Below w.heap.size w w' from HB0.out.trans (h.mono HB0.out.size)))
  have HPB := Lib.hid (fun (w' : World) (h : Below W0.heap.size W0 w') => hp w' (HBW.out w' h))
  have HVB := Lib.hid (fun (w' : World) (h : Below W0.heap.size W0 w') => hV w' (HBW.out w' h))
  obtain ⟨nv, hnv⟩ : ∃ nv, vbs.length = nv := ⟨_, rfl⟩
  rw [hnv] at HVB hvl
  have HNV := Lib.hid hnv
  clear hnv hV
  clear hp hR hW0 hs0
  have hbd : Below W0.heap.size W0 W0.drew := (Below.refl _ _).drew
  refine wp_region_held (S := fun w' : World => Below W0.heap.size W0 w') (by kernel_rfl) ?_
  change wpAnyH _ _ _ _ _ _ _ _ (World.drew _)
  have hS : (fun w' : World => Below W0.heap.size W0 w') (World.drew _) := hbd
  refine wpAnyH_take (i := 0) (v := ?_) rfl (by kernel_rfl) (by kernel_rfl) (by kernel_rfl) (fun _ _ _ h => h) (Or.inl ⟨by rfl, ?_⟩) hS ?_
  rotate_left
  · (intro w' hSw; go_simp; try (with_reducible rfl))
  change wpAnyH _ _ _ _ _ _ _ (Act.put _ (some 4) _) _
  try simp only [Act.put, List.setIfInBounds_toArray, List.set_cons_zero, List.set_cons_succ]
  refine wpAnyH_take (i := 1) (v := .int .i64 1) rfl (by kernel_rfl) (by kernel_rfl) (by kernel_rfl) (fun _ _ _ h => h) (Or.inl ⟨by rfl, fun w' hSw => ex_ldO 3 (.tmp 4) rfl _ _ rfl (ld_intO ((HRW.out w' hSw).cell (k := 0) rfl))⟩) hS ?_
  change wpAnyH _ _ _ _ _ _ _ (Act.put _ (some 5) _) _
  try simp only [Act.put, List.setIfInBounds_toArray, List.set_cons_zero, List.set_cons_succ]
  refine wpAnyH_take (i := 2) (v := ?_) rfl (by kernel_rfl) (by kernel_rfl) (by kernel_rfl) (fun _ _ _ h => h) (Or.inl ⟨by rfl, ?_⟩) hS ?_
  rotate_left
  · (intro w' hSw; go_simp; try (with_reducible rfl))
  change wpAnyH _ _ _ _ _ _ _ (Act.put _ (some 6) _) _
  try simp only [Act.put, List.setIfInBounds_toArray, List.set_cons_zero, List.set_cons_succ]
  refine wpAnyH_take (i := 4) (v := ?_) rfl (by kernel_rfl) (by kernel_rfl) (by kernel_rfl) (fun _ _ _ h => h) (Or.inl ⟨by rfl, ?_⟩) hS ?_
  rotate_left
  · (intro w' hSw; go_simp; try (with_reducible rfl))
  change wpAnyH _ _ _ _ _ _ _ (Act.put _ (some 8) _) _
  try simp only [Act.put, List.setIfInBounds_toArray, List.set_cons_zero, List.set_cons_succ]
  refine wpAnyH_take (i := 5) (v := .slice p n c) rfl (by kernel_rfl) (by kernel_rfl) (by kernel_rfl) (fun _ _ _ h => h) (Or.inl ⟨by rfl, fun w' hSw => ex_ldO 22 (.tmp 8) rfl _ _ rfl (ld_stpsO ((HRW.out w' hSw).cell (k := 1) rfl))⟩) hS ?_
  change wpAnyH _ _ _ _ _ _ _ (Act.put _ (some 9) _) _
  try simp only [Act.put, List.setIfInBounds_toArray, List.set_cons_zero, List.set_cons_succ]
  generalize hWc : World.drew W0 = Wc at *
  clear hWc
  refine wpAnyH_ready (rs := [3, 6]) (by kernel_rfl) (by simp) ?_
  refine AllReadyH.cons rfl (fun K hK => ?_) (AllReadyH.cons rfl (fun K hK => ?_) AllReadyH.nil)
  · rw [if_pos (by kernel_rfl)]
    have hS0 : W0.heap.size ≤ Wc.heap.size := hS.size
    refine wp_build1O (.tmp 6) rfl 1 rfl ?_
    refine hK.out _ _ (hS.alloc hS.size _) (fun hS1 => ?_)
    clear hK K hS
    have hS := hS1
    clear hS1
    change wpAnyH _ _ _ _ _ _ _ (Act.put _ (some 7) _) _
    try simp only [Act.put, List.setIfInBounds_toArray, List.set_cons_zero, List.set_cons_succ]
    refine wpAnyH_ready (rs := [6]) (by kernel_rfl) (by simp) ?_
    refine AllReadyH.cons rfl (fun K hK => ?_) AllReadyH.nil
    rw [if_pos (by kernel_rfl)]
    go_simp
    refine (HPB.out _ hS).mono ?_
    rintro e w1 ⟨v1, rfl, ho1, hb1⟩
    obtain ⟨A1, c1, rfl⟩ := own_slice ho1
    have hS2 : Below W0.heap.size W0 w1 := hS.trans (hb1.mono hS.size)
    have hm := own_below (own_oneO Wc 1 (by decide)) hb1
    have hm := own_base hm hS0
    refine hK.out _ _ (hS2) (fun hS1 => ?_)
    clear hK K hS hS2
    have hS := hS1
    clear hS1
    try simp only [Act.put, List.setIfInBounds_toArray, List.set_cons_zero, List.set_cons_succ]
    refine wpAnyH_ready (rs := [7]) (by kernel_rfl) (by simp) ?_
    refine AllReadyH.cons rfl (fun K hK => ?_) AllReadyH.nil
    rw [if_pos (by kernel_rfl)]
    refine wp_append_rdO (.tmp 7) (.tmp 10) 33 rfl W0.heap.size 5 i0 (.int .u8 0) 1 Tryz.underlying33 hi hz0 hz1 hz2 rfl (.slice (some ⟨Wc.heap.size, 0, none⟩) 1 1) 1 _ rfl (hm) _ A1 np c1 (Bs pb) rfl (Rd.of_own ho1) (Bs_one _) (by unfold maxLen; omega) (by omega) hS.size ?_
    intro v7 w7 ho7 hg7
    have hb7 : Below W0.heap.size W0 w7 := hS.grown hg7 hS.size (fun q hq => ((hm).lt q hq).1)
    refine hK.out _ _ (hb7) (fun hS1 => ?_)
    clear hK K hS
    have hS := hS1
    clear hS1
    change wpAnyH _ _ _ _ _ _ _ (Act.put _ (some 11) _) _
    try simp only [Act.put, List.setIfInBounds_toArray, List.set_cons_zero, List.set_cons_succ]
    refine wpAnyH_take (i := 8) (v := ?_) rfl (by kernel_rfl) (by kernel_rfl) (by kernel_rfl) (fun _ _ _ h => h) (Or.inl ⟨by rfl, ?_⟩) hS ?_
    rotate_left
    · (intro w' hSw; go_simp; try (with_reducible rfl))
    change wpAnyH _ _ _ _ _ _ _ (Act.put _ (some 3) _) _
    try simp only [Act.put, List.setIfInBounds_toArray, List.set_cons_zero, List.set_cons_succ]
    refine wpAnyH_done (by kernel_rfl) ?_ _
    rw [← Bs_append] at ho7
    obtain ⟨L1, hL1⟩ : ∃ L, [UInt8.ofNat 1] ++ pb = L := ⟨_, rfl⟩
    rw [hL1] at ho7
    have HL1 := Lib.hid hL1
    clear hg7 ho1 hL1
    have HO := Lib.hid ho7
    clear ho7
    have c0 := (HRW.out _ hS).cell (k := 0) rfl
    have c4 := (HRW.out _ hS).cell (k := 4) rfl
    have c5 := (HRW.out _ hS).cell (k := 5) rfl
    have c6 := (HRW.out _ hS).cell (k := 6) rfl
    have c7 := (HRW.out _ hS).cell (k := 7) rfl
    have c8 := (HRW.out _ hS).cell (k := 8) rfl
    have c9 := (HRW.out _ hS).cell (k := 9) rfl
    go_wp2_with fail
    refine (valued_any 1 (by decide) _).mono ?_
    rintro e wv ⟨rfl, rfl⟩
    go_wp2_with fail
    refine (HVB.out _ hS).mono ?_
    rintro e wr0 ⟨u0x, rfl, ho0x, hb0x⟩
    obtain ⟨B0, d0, rfl⟩ := own_slice ho0x
    have hbx0 : Below W0.heap.size W0 wr0 := hS.trans (hb0x.mono hS.size)
    have HOW0 := Lib.hid (own_below HO.out hb0x)
    have HOX0 := Lib.hid (Rd.of_own ho0x)
    have hsz0 := hbx0.size
    clear ho0x c4 c5 c6 c7 c8 c9 c0
    clear hb0x
    go_wp2_with (at_builtin; refine wpList_append_rd _ rfl (.tmp 36) (.tmp 39) 33 rfl W0.heap.size 5 i0 (.int .u8 0) 1 Tryz.underlying33 hi hz0 hz1 hz2 rfl _ (1 + np) (Bs L1) rfl HOW0.out _ B0 nv d0 (Bs vbs) rfl HOX0.out (Bs_one _) ?c1 ?c2 ?c3 ?_)
    case c1 => unfold maxLen; omega
    case c2 => omega
    case c3 => exact hsz0
    intro v0y w0y ho0y hg0y _
    rw [← Bs_append] at ho0y
    obtain ⟨L2, hL2⟩ : ∃ L, L1 ++ vbs = L := ⟨_, rfl⟩
    rw [hL2] at ho0y
    have HL2 := Lib.hid hL2
    clear hL2
    have hbz0 : Below W0.heap.size W0 w0y := hbx0.grown hg0y hsz0 (fun q hq => (HOW0.out.lt q hq).1)
    have HO0y := Lib.hid ho0y
    clear ho0y hg0y
    have c0 := (HRW.out _ hbz0).cell (k := 0) rfl
    go_wp2_with fail
    go_ret
    have hfin := HO0y.out
    have hkl : KL = L2 := by rw [HKL.out]; simp only [← HL2.out, ← HL1.out, List.append_assoc]
    have hlk : L2.length = ((1 + np) + nv) := by have := hfin.1; rw [Bs_length] at this; omega
    refine ⟨_, rfl, ?_, HBW.out _ hbz0⟩
    rw [hkl, hlk]
    exact own_base hfin (by have := HS0.out; omega)
  · rw [if_pos (by kernel_rfl)]
    go_simp
    refine (HPB.out _ hS).mono ?_
    rintro e w1 ⟨v1, rfl, ho1, hb1⟩
    obtain ⟨A1, c1, rfl⟩ := own_slice ho1
    have hS2 : Below W0.heap.size W0 w1 := hS.trans (hb1.mono hS.size)
    refine hK.out _ _ (hS2) (fun hS1 => ?_)
    clear hK K hS hS2
    have hS := hS1
    clear hS1
    try simp only [Act.put, List.setIfInBounds_toArray, List.set_cons_zero, List.set_cons_succ]
    refine wpAnyH_ready (rs := [3]) (by kernel_rfl) (by simp) ?_
    refine AllReadyH.cons rfl (fun K hK => ?_) AllReadyH.nil
    have hm := own_base (own_oneO w1 1 (by decide)) hS.size
    have ho2 := own_below ho1 (below_newO w1 (.cells #[.int .u8 (1 : Nat)] 5))
    rw [if_pos (by kernel_rfl)]
    refine wp_build1O (.tmp 6) rfl 1 rfl ?_
    refine hK.out _ _ (hS.alloc hS.size _) (fun hS1 => ?_)
    clear hK K hS
    have hS := hS1
    clear hS1
    change wpAnyH _ _ _ _ _ _ _ (Act.put _ (some 7) _) _
    try simp only [Act.put, List.setIfInBounds_toArray, List.set_cons_zero, List.set_cons_succ]
    refine wpAnyH_ready (rs := [7]) (by kernel_rfl) (by simp) ?_
    refine AllReadyH.cons rfl (fun K hK => ?_) AllReadyH.nil
    rw [if_pos (by kernel_rfl)]
    refine wp_append_rdO (.tmp 7) (.tmp 10) 33 rfl W0.heap.size 5 i0 (.int .u8 0) 1 Tryz.underlying33 hi hz0 hz1 hz2 rfl (.slice (some ⟨w1.heap.size, 0, none⟩) 1 1) 1 _ rfl (hm) _ A1 np c1 (Bs pb) rfl (Rd.of_own ho2) (Bs_one _) (by unfold maxLen; omega) (by omega) hS.size ?_
    intro v7 w7 ho7 hg7
    have hb7 : Below W0.heap.size W0 w7 := hS.grown hg7 hS.size (fun q hq => ((hm).lt q hq).1)
    refine hK.out _ _ (hb7) (fun hS1 => ?_)
    clear hK K hS
    have hS := hS1
    clear hS1
    change wpAnyH _ _ _ _ _ _ _ (Act.put _ (some 11) _) _
    try simp only [Act.put, List.setIfInBounds_toArray, List.set_cons_zero, List.set_cons_succ]
    refine wpAnyH_take (i := 8) (v := ?_) rfl (by kernel_rfl) (by kernel_rfl) (by kernel_rfl) (fun _ _ _ h => h) (Or.inl ⟨by rfl, ?_⟩) hS ?_
    rotate_left
    · (intro w' hSw; go_simp; try (with_reducible rfl))
    change wpAnyH _ _ _ _ _ _ _ (Act.put _ (some 3) _) _
    try simp only [Act.put, List.setIfInBounds_toArray, List.set_cons_zero, List.set_cons_succ]
    refine wpAnyH_done (by kernel_rfl) ?_ _
    rw [← Bs_append] at ho7
    obtain ⟨L1, hL1⟩ : ∃ L, [UInt8.ofNat 1] ++ pb = L := ⟨_, rfl⟩
    rw [hL1] at ho7
    have HL1 := Lib.hid hL1
    clear hg7 ho1 hL1
    have HO := Lib.hid ho7
    clear ho7
    have c0 := (HRW.out _ hS).cell (k := 0) rfl
    have c4 := (HRW.out _ hS).cell (k := 4) rfl
    have c5 := (HRW.out _ hS).cell (k := 5) rfl
    have c6 := (HRW.out _ hS).cell (k := 6) rfl
    have c7 := (HRW.out _ hS).cell (k := 7) rfl
    have c8 := (HRW.out _ hS).cell (k := 8) rfl
    have c9 := (HRW.out _ hS).cell (k := 9) rfl
    go_wp2_with fail
    refine (valued_any 1 (by decide) _).mono ?_
    rintro e wv ⟨rfl, rfl⟩
    go_wp2_with fail
    refine (HVB.out _ hS).mono ?_
    rintro e wr0 ⟨u0x, rfl, ho0x, hb0x⟩
    obtain ⟨B0, d0, rfl⟩ := own_slice ho0x
    have hbx0 : Below W0.heap.size W0 wr0 := hS.trans (hb0x.mono hS.size)
    have HOW0 := Lib.hid (own_below HO.out hb0x)
    have HOX0 := Lib.hid (Rd.of_own ho0x)
    have hsz0 := hbx0.size
    clear ho0x c4 c5 c6 c7 c8 c9 c0
    clear hb0x
    go_wp2_with (at_builtin; refine wpList_append_rd _ rfl (.tmp 36) (.tmp 39) 33 rfl W0.heap.size 5 i0 (.int .u8 0) 1 Tryz.underlying33 hi hz0 hz1 hz2 rfl _ (1 + np) (Bs L1) rfl HOW0.out _ B0 nv d0 (Bs vbs) rfl HOX0.out (Bs_one _) ?c1 ?c2 ?c3 ?_)
    case c1 => unfold maxLen; omega
    case c2 => omega
    case c3 => exact hsz0
    intro v0y w0y ho0y hg0y _
    rw [← Bs_append] at ho0y
    obtain ⟨L2, hL2⟩ : ∃ L, L1 ++ vbs = L := ⟨_, rfl⟩
    rw [hL2] at ho0y
    have HL2 := Lib.hid hL2
    clear hL2
    have hbz0 : Below W0.heap.size W0 w0y := hbx0.grown hg0y hsz0 (fun q hq => (HOW0.out.lt q hq).1)
    have HO0y := Lib.hid ho0y
    clear ho0y hg0y
    have c0 := (HRW.out _ hbz0).cell (k := 0) rfl
    go_wp2_with fail
    go_ret
    have hfin := HO0y.out
    have hkl : KL = L2 := by rw [HKL.out]; simp only [← HL2.out, ← HL1.out, List.append_assoc]
    have hlk : L2.length = ((1 + np) + nv) := by have := hfin.1; rw [Bs_length] at this; omega
    refine ⟨_, rfl, ?_, HBW.out _ hbz0⟩
    rw [hkl, hlk]
    exact own_base hfin (by have := HS0.out; omega)

set_option maxHeartbeats 6400000 in
theorem obytes_2 (p : Option Addr) (n c : Nat) (i f : Nat) (hi1 : i < 18446744073709551616) (hf1 : f < 18446744073709551616) (vk vn : Int) (vs : ByteArray) (va : Option Addr) (vla vca : Nat) (vb : Option Addr) (vlb vcb : Nat) (vc : Option Addr) (vlc vcc : Nat) (pb : List UInt8) (hpl : pb.length ≤ 300) (w : World) (hp : ∀ wx, Below w.heap.size w wx → Calls Tryz.prog 24 #[.slice p n c] wx fun e w' => ∃ v, e = .returned v ∧ w'.ownsRow wx.heap.size 5 1 v pb.length (Bs pb) ∧ Below wx.heap.size wx w') (vbs : List UInt8) (hvl : vbs.length ≤ 400000000) (hV : ∀ wx, Below w.heap.size w wx → Calls Tryz.prog 26 #[.agg (vC vk vn vs va vla vca vb vlb vcb vc vlc vcc).toArray] wx fun e w' => ∃ x, e = .returned x ∧ w'.ownsRow wx.heap.size 5 1 x vbs.length (Bs vbs) ∧ Below wx.heap.size wx w') (KL : List UInt8) (hKL : KL = [UInt8.ofNat 2] ++ pb ++ enc i ++ enc f ++ vbs) :
    Calls Tryz.prog 9 #[.agg (oC 2 p n c i f vk vn vs va vla vca vb vlb vcb vc vlc vcc).toArray] w fun e w' => ∃ x, e = .returned x ∧ w'.ownsRow w.heap.size 5 1 x KL.length (Bs KL) ∧ Below w.heap.size w w' := by
  obtain ⟨i0, hi, hz0, hz1, hz2⟩ := info_parts u8_info
  have HB0 := Lib.hid (below_newO w (.cells (oC 2 p n c i f vk vn vs va vla vca vb vlb vcb vc vlc vcc).toArray 30))
  have hs0 : (w.alloc (.cells (oC 2 p n c i f vk vn vs va vla vca vb vlb vcb vc vlc vcc).toArray 30)).heap.size = w.heap.size + 1 := by simp
  have hR := Row.new w (oC 2 p n c i f vk vn vs va vla vca vb vlb vcb vc vlc vcc) 30
  have HKL := Lib.hid hKL
  clear hKL
  have HS0 := Lib.hid hs0
  obtain ⟨np, hnp⟩ : ∃ np, pb.length = np := ⟨_, rfl⟩
  rw [hnp] at hp hpl
  have HNP := Lib.hid hnp
  clear hnp
  have hei := enc_length_le (n := i) (by omega)
  have hef := enc_length_le (n := f) (by omega)
  go_enter Tryz.func9, Tryz.ntmps9
  go_wp2_with fail
  generalize hW0 : (w.alloc (.cells (oC 2 p n c i f vk vn vs va vla vca vb vlb vcb vc vlc vcc).toArray 30)) = W0 at *
  have HRW := Lib.hid (fun (w' : World) (h : Below W0.heap.size W0 w') => hR.belowAll h)
  have HBW := Lib.hid (fun (w' : World) (h : Below W0.heap.size W0 w') => (show Below w.heap.size w w' from HB0.out.trans (h.mono HB0.out.size)))
  have HPB := Lib.hid (fun (w' : World) (h : Below W0.heap.size W0 w') => hp w' (HBW.out w' h))
  have HVB := Lib.hid (fun (w' : World) (h : Below W0.heap.size W0 w') => hV w' (HBW.out w' h))
  obtain ⟨nv, hnv⟩ : ∃ nv, vbs.length = nv := ⟨_, rfl⟩
  rw [hnv] at HVB hvl
  have HNV := Lib.hid hnv
  clear hnv hV
  clear hp hR hW0 hs0
  have hbd : Below W0.heap.size W0 W0.drew := (Below.refl _ _).drew
  refine wp_region_held (S := fun w' : World => Below W0.heap.size W0 w') (by kernel_rfl) ?_
  change wpAnyH _ _ _ _ _ _ _ _ (World.drew _)
  have hS : (fun w' : World => Below W0.heap.size W0 w') (World.drew _) := hbd
  refine wpAnyH_take (i := 0) (v := ?_) rfl (by kernel_rfl) (by kernel_rfl) (by kernel_rfl) (fun _ _ _ h => h) (Or.inl ⟨by rfl, ?_⟩) hS ?_
  rotate_left
  · (intro w' hSw; go_simp; try (with_reducible rfl))
  change wpAnyH _ _ _ _ _ _ _ (Act.put _ (some 4) _) _
  try simp only [Act.put, List.setIfInBounds_toArray, List.set_cons_zero, List.set_cons_succ]
  refine wpAnyH_take (i := 1) (v := .int .i64 2) rfl (by kernel_rfl) (by kernel_rfl) (by kernel_rfl) (fun _ _ _ h => h) (Or.inl ⟨by rfl, fun w' hSw => ex_ldO 3 (.tmp 4) rfl _ _ rfl (ld_intO ((HRW.out w' hSw).cell (k := 0) rfl))⟩) hS ?_
  change wpAnyH _ _ _ _ _ _ _ (Act.put _ (some 5) _) _
  try simp only [Act.put, List.setIfInBounds_toArray, List.set_cons_zero, List.set_cons_succ]
  refine wpAnyH_take (i := 2) (v := ?_) rfl (by kernel_rfl) (by kernel_rfl) (by kernel_rfl) (fun _ _ _ h => h) (Or.inl ⟨by rfl, ?_⟩) hS ?_
  rotate_left
  · (intro w' hSw; go_simp; try (with_reducible rfl))
  change wpAnyH _ _ _ _ _ _ _ (Act.put _ (some 6) _) _
  try simp only [Act.put, List.setIfInBounds_toArray, List.set_cons_zero, List.set_cons_succ]
  refine wpAnyH_take (i := 4) (v := ?_) rfl (by kernel_rfl) (by kernel_rfl) (by kernel_rfl) (fun _ _ _ h => h) (Or.inl ⟨by rfl, ?_⟩) hS ?_
  rotate_left
  · (intro w' hSw; go_simp; try (with_reducible rfl))
  change wpAnyH _ _ _ _ _ _ _ (Act.put _ (some 8) _) _
  try simp only [Act.put, List.setIfInBounds_toArray, List.set_cons_zero, List.set_cons_succ]
  refine wpAnyH_take (i := 5) (v := .slice p n c) rfl (by kernel_rfl) (by kernel_rfl) (by kernel_rfl) (fun _ _ _ h => h) (Or.inl ⟨by rfl, fun w' hSw => ex_ldO 22 (.tmp 8) rfl _ _ rfl (ld_stpsO ((HRW.out w' hSw).cell (k := 1) rfl))⟩) hS ?_
  change wpAnyH _ _ _ _ _ _ _ (Act.put _ (some 9) _) _
  try simp only [Act.put, List.setIfInBounds_toArray, List.set_cons_zero, List.set_cons_succ]
  generalize hWc : World.drew W0 = Wc at *
  clear hWc
  refine wpAnyH_ready (rs := [3, 6]) (by kernel_rfl) (by simp) ?_
  refine AllReadyH.cons rfl (fun K hK => ?_) (AllReadyH.cons rfl (fun K hK => ?_) AllReadyH.nil)
  · rw [if_pos (by kernel_rfl)]
    have hS0 : W0.heap.size ≤ Wc.heap.size := hS.size
    refine wp_build1O (.tmp 6) rfl 2 rfl ?_
    refine hK.out _ _ (hS.alloc hS.size _) (fun hS1 => ?_)
    clear hK K hS
    have hS := hS1
    clear hS1
    change wpAnyH _ _ _ _ _ _ _ (Act.put _ (some 7) _) _
    try simp only [Act.put, List.setIfInBounds_toArray, List.set_cons_zero, List.set_cons_succ]
    refine wpAnyH_ready (rs := [6]) (by kernel_rfl) (by simp) ?_
    refine AllReadyH.cons rfl (fun K hK => ?_) AllReadyH.nil
    rw [if_pos (by kernel_rfl)]
    go_simp
    refine (HPB.out _ hS).mono ?_
    rintro e w1 ⟨v1, rfl, ho1, hb1⟩
    obtain ⟨A1, c1, rfl⟩ := own_slice ho1
    have hS2 : Below W0.heap.size W0 w1 := hS.trans (hb1.mono hS.size)
    have hm := own_below (own_oneO Wc 2 (by decide)) hb1
    have hm := own_base hm hS0
    refine hK.out _ _ (hS2) (fun hS1 => ?_)
    clear hK K hS hS2
    have hS := hS1
    clear hS1
    try simp only [Act.put, List.setIfInBounds_toArray, List.set_cons_zero, List.set_cons_succ]
    refine wpAnyH_ready (rs := [7]) (by kernel_rfl) (by simp) ?_
    refine AllReadyH.cons rfl (fun K hK => ?_) AllReadyH.nil
    rw [if_pos (by kernel_rfl)]
    refine wp_append_rdO (.tmp 7) (.tmp 10) 33 rfl W0.heap.size 5 i0 (.int .u8 0) 1 Tryz.underlying33 hi hz0 hz1 hz2 rfl (.slice (some ⟨Wc.heap.size, 0, none⟩) 1 1) 1 _ rfl (hm) _ A1 np c1 (Bs pb) rfl (Rd.of_own ho1) (Bs_one _) (by unfold maxLen; omega) (by omega) hS.size ?_
    intro v7 w7 ho7 hg7
    have hb7 : Below W0.heap.size W0 w7 := hS.grown hg7 hS.size (fun q hq => ((hm).lt q hq).1)
    refine hK.out _ _ (hb7) (fun hS1 => ?_)
    clear hK K hS
    have hS := hS1
    clear hS1
    change wpAnyH _ _ _ _ _ _ _ (Act.put _ (some 11) _) _
    try simp only [Act.put, List.setIfInBounds_toArray, List.set_cons_zero, List.set_cons_succ]
    refine wpAnyH_take (i := 8) (v := ?_) rfl (by kernel_rfl) (by kernel_rfl) (by kernel_rfl) (fun _ _ _ h => h) (Or.inl ⟨by rfl, ?_⟩) hS ?_
    rotate_left
    · (intro w' hSw; go_simp; try (with_reducible rfl))
    change wpAnyH _ _ _ _ _ _ _ (Act.put _ (some 3) _) _
    try simp only [Act.put, List.setIfInBounds_toArray, List.set_cons_zero, List.set_cons_succ]
    refine wpAnyH_done (by kernel_rfl) ?_ _
    rw [← Bs_append] at ho7
    obtain ⟨L1, hL1⟩ : ∃ L, [UInt8.ofNat 2] ++ pb = L := ⟨_, rfl⟩
    rw [hL1] at ho7
    have HL1 := Lib.hid hL1
    clear hg7 ho1 hL1
    have HO := Lib.hid ho7
    clear ho7
    have c0 := (HRW.out _ hS).cell (k := 0) rfl
    have c2 := (HRW.out _ hS).cell (k := 2) rfl
    go_wp2_with fail
    refine (refnum_any i i _ (Nat.le_refl _) (by omega)).mono ?_
    rintro e wr0 ⟨u0x, rfl, ho0x, hb0x⟩
    obtain ⟨ne0, hne0⟩ : ∃ m, (enc i).length = m := ⟨_, rfl⟩
    rw [hne0] at ho0x
    have hne0l : ne0 ≤ 10 := by omega
    have HNE0 := Lib.hid hne0
    clear hne0
    obtain ⟨B0, d0, rfl⟩ := own_slice ho0x
    have hbx0 : Below W0.heap.size W0 wr0 := hS.trans (hb0x.mono hS.size)
    have HOW0 := Lib.hid (own_below HO.out hb0x)
    have HOX0 := Lib.hid (Rd.of_own ho0x)
    have hsz0 := hbx0.size
    clear ho0x c2 c0
    clear hb0x
    go_wp2_with (at_builtin; refine wpList_append_rd _ rfl (.tmp 15) (.tmp 18) 33 rfl W0.heap.size 5 i0 (.int .u8 0) 1 Tryz.underlying33 hi hz0 hz1 hz2 rfl _ (1 + np) (Bs L1) rfl HOW0.out _ B0 ne0 d0 (Bs (enc i)) rfl HOX0.out (Bs_one _) ?c1 ?c2 ?c3 ?_)
    case c1 => unfold maxLen; omega
    case c2 => omega
    case c3 => exact hsz0
    intro v0y w0y ho0y hg0y _
    rw [← Bs_append] at ho0y
    obtain ⟨L2, hL2⟩ : ∃ L, L1 ++ (enc i) = L := ⟨_, rfl⟩
    rw [hL2] at ho0y
    have HL2 := Lib.hid hL2
    clear hL2
    have hbz0 : Below W0.heap.size W0 w0y := hbx0.grown hg0y hsz0 (fun q hq => (HOW0.out.lt q hq).1)
    have HO0y := Lib.hid ho0y
    clear ho0y hg0y
    have c0 := (HRW.out _ hbz0).cell (k := 0) rfl
    have c3 := (HRW.out _ hbz0).cell (k := 3) rfl
    go_wp2_with fail
    refine (refnum_any f f _ (Nat.le_refl _) (by omega)).mono ?_
    rintro e wr1 ⟨u1x, rfl, ho1x, hb1x⟩
    obtain ⟨ne1, hne1⟩ : ∃ m, (enc f).length = m := ⟨_, rfl⟩
    rw [hne1] at ho1x
    have hne1l : ne1 ≤ 10 := by omega
    have HNE1 := Lib.hid hne1
    clear hne1
    obtain ⟨B1, d1, rfl⟩ := own_slice ho1x
    have hbx1 : Below W0.heap.size W0 wr1 := hbz0.trans (hb1x.mono hbz0.size)
    have HOW1 := Lib.hid (own_below HO0y.out hb1x)
    have HOX1 := Lib.hid (Rd.of_own ho1x)
    have hsz1 := hbx1.size
    clear ho1x c3 c0
    clear hb1x
    go_wp2_with (at_builtin; refine wpList_append_rd _ rfl (.tmp 28) (.tmp 31) 33 rfl W0.heap.size 5 i0 (.int .u8 0) 1 Tryz.underlying33 hi hz0 hz1 hz2 rfl _ ((1 + np) + ne0) (Bs L2) rfl HOW1.out _ B1 ne1 d1 (Bs (enc f)) rfl HOX1.out (Bs_one _) ?c1 ?c2 ?c3 ?_)
    case c1 => unfold maxLen; omega
    case c2 => omega
    case c3 => exact hsz1
    intro v1y w1y ho1y hg1y _
    rw [← Bs_append] at ho1y
    obtain ⟨L3, hL3⟩ : ∃ L, L2 ++ (enc f) = L := ⟨_, rfl⟩
    rw [hL3] at ho1y
    have HL3 := Lib.hid hL3
    clear hL3
    have hbz1 : Below W0.heap.size W0 w1y := hbx1.grown hg1y hsz1 (fun q hq => (HOW1.out.lt q hq).1)
    have HO1y := Lib.hid ho1y
    clear ho1y hg1y
    have c0 := (HRW.out _ hbz1).cell (k := 0) rfl
    have c4 := (HRW.out _ hbz1).cell (k := 4) rfl
    have c5 := (HRW.out _ hbz1).cell (k := 5) rfl
    have c6 := (HRW.out _ hbz1).cell (k := 6) rfl
    have c7 := (HRW.out _ hbz1).cell (k := 7) rfl
    have c8 := (HRW.out _ hbz1).cell (k := 8) rfl
    have c9 := (HRW.out _ hbz1).cell (k := 9) rfl
    go_wp2_with fail
    refine (valued_any 2 (by decide) _).mono ?_
    rintro e wv ⟨rfl, rfl⟩
    go_wp2_with fail
    refine (HVB.out _ hbz1).mono ?_
    rintro e wr2 ⟨u2x, rfl, ho2x, hb2x⟩
    obtain ⟨B2, d2, rfl⟩ := own_slice ho2x
    have hbx2 : Below W0.heap.size W0 wr2 := hbz1.trans (hb2x.mono hbz1.size)
    have HOW2 := Lib.hid (own_below HO1y.out hb2x)
    have HOX2 := Lib.hid (Rd.of_own ho2x)
    have hsz2 := hbx2.size
    clear ho2x c4 c5 c6 c7 c8 c9 c0
    clear hb2x
    go_wp2_with (at_builtin; refine wpList_append_rd _ rfl (.tmp 36) (.tmp 39) 33 rfl W0.heap.size 5 i0 (.int .u8 0) 1 Tryz.underlying33 hi hz0 hz1 hz2 rfl _ (((1 + np) + ne0) + ne1) (Bs L3) rfl HOW2.out _ B2 nv d2 (Bs vbs) rfl HOX2.out (Bs_one _) ?c1 ?c2 ?c3 ?_)
    case c1 => unfold maxLen; omega
    case c2 => omega
    case c3 => exact hsz2
    intro v2y w2y ho2y hg2y _
    rw [← Bs_append] at ho2y
    obtain ⟨L4, hL4⟩ : ∃ L, L3 ++ vbs = L := ⟨_, rfl⟩
    rw [hL4] at ho2y
    have HL4 := Lib.hid hL4
    clear hL4
    have hbz2 : Below W0.heap.size W0 w2y := hbx2.grown hg2y hsz2 (fun q hq => (HOW2.out.lt q hq).1)
    have HO2y := Lib.hid ho2y
    clear ho2y hg2y
    have c0 := (HRW.out _ hbz2).cell (k := 0) rfl
    go_wp2_with fail
    go_ret
    have hfin := HO2y.out
    have hkl : KL = L4 := by rw [HKL.out]; simp only [← HL4.out, ← HL3.out, ← HL2.out, ← HL1.out, List.append_assoc]
    have hlk : L4.length = ((((1 + np) + ne0) + ne1) + nv) := by have := hfin.1; rw [Bs_length] at this; omega
    refine ⟨_, rfl, ?_, HBW.out _ hbz2⟩
    rw [hkl, hlk]
    exact own_base hfin (by have := HS0.out; omega)
  · rw [if_pos (by kernel_rfl)]
    go_simp
    refine (HPB.out _ hS).mono ?_
    rintro e w1 ⟨v1, rfl, ho1, hb1⟩
    obtain ⟨A1, c1, rfl⟩ := own_slice ho1
    have hS2 : Below W0.heap.size W0 w1 := hS.trans (hb1.mono hS.size)
    refine hK.out _ _ (hS2) (fun hS1 => ?_)
    clear hK K hS hS2
    have hS := hS1
    clear hS1
    try simp only [Act.put, List.setIfInBounds_toArray, List.set_cons_zero, List.set_cons_succ]
    refine wpAnyH_ready (rs := [3]) (by kernel_rfl) (by simp) ?_
    refine AllReadyH.cons rfl (fun K hK => ?_) AllReadyH.nil
    have hm := own_base (own_oneO w1 2 (by decide)) hS.size
    have ho2 := own_below ho1 (below_newO w1 (.cells #[.int .u8 (2 : Nat)] 5))
    rw [if_pos (by kernel_rfl)]
    refine wp_build1O (.tmp 6) rfl 2 rfl ?_
    refine hK.out _ _ (hS.alloc hS.size _) (fun hS1 => ?_)
    clear hK K hS
    have hS := hS1
    clear hS1
    change wpAnyH _ _ _ _ _ _ _ (Act.put _ (some 7) _) _
    try simp only [Act.put, List.setIfInBounds_toArray, List.set_cons_zero, List.set_cons_succ]
    refine wpAnyH_ready (rs := [7]) (by kernel_rfl) (by simp) ?_
    refine AllReadyH.cons rfl (fun K hK => ?_) AllReadyH.nil
    rw [if_pos (by kernel_rfl)]
    refine wp_append_rdO (.tmp 7) (.tmp 10) 33 rfl W0.heap.size 5 i0 (.int .u8 0) 1 Tryz.underlying33 hi hz0 hz1 hz2 rfl (.slice (some ⟨w1.heap.size, 0, none⟩) 1 1) 1 _ rfl (hm) _ A1 np c1 (Bs pb) rfl (Rd.of_own ho2) (Bs_one _) (by unfold maxLen; omega) (by omega) hS.size ?_
    intro v7 w7 ho7 hg7
    have hb7 : Below W0.heap.size W0 w7 := hS.grown hg7 hS.size (fun q hq => ((hm).lt q hq).1)
    refine hK.out _ _ (hb7) (fun hS1 => ?_)
    clear hK K hS
    have hS := hS1
    clear hS1
    change wpAnyH _ _ _ _ _ _ _ (Act.put _ (some 11) _) _
    try simp only [Act.put, List.setIfInBounds_toArray, List.set_cons_zero, List.set_cons_succ]
    refine wpAnyH_take (i := 8) (v := ?_) rfl (by kernel_rfl) (by kernel_rfl) (by kernel_rfl) (fun _ _ _ h => h) (Or.inl ⟨by rfl, ?_⟩) hS ?_
    rotate_left
    · (intro w' hSw; go_simp; try (with_reducible rfl))
    change wpAnyH _ _ _ _ _ _ _ (Act.put _ (some 3) _) _
    try simp only [Act.put, List.setIfInBounds_toArray, List.set_cons_zero, List.set_cons_succ]
    refine wpAnyH_done (by kernel_rfl) ?_ _
    rw [← Bs_append] at ho7
    obtain ⟨L1, hL1⟩ : ∃ L, [UInt8.ofNat 2] ++ pb = L := ⟨_, rfl⟩
    rw [hL1] at ho7
    have HL1 := Lib.hid hL1
    clear hg7 ho1 hL1
    have HO := Lib.hid ho7
    clear ho7
    have c0 := (HRW.out _ hS).cell (k := 0) rfl
    have c2 := (HRW.out _ hS).cell (k := 2) rfl
    go_wp2_with fail
    refine (refnum_any i i _ (Nat.le_refl _) (by omega)).mono ?_
    rintro e wr0 ⟨u0x, rfl, ho0x, hb0x⟩
    obtain ⟨ne0, hne0⟩ : ∃ m, (enc i).length = m := ⟨_, rfl⟩
    rw [hne0] at ho0x
    have hne0l : ne0 ≤ 10 := by omega
    have HNE0 := Lib.hid hne0
    clear hne0
    obtain ⟨B0, d0, rfl⟩ := own_slice ho0x
    have hbx0 : Below W0.heap.size W0 wr0 := hS.trans (hb0x.mono hS.size)
    have HOW0 := Lib.hid (own_below HO.out hb0x)
    have HOX0 := Lib.hid (Rd.of_own ho0x)
    have hsz0 := hbx0.size
    clear ho0x c2 c0
    clear hb0x
    go_wp2_with (at_builtin; refine wpList_append_rd _ rfl (.tmp 15) (.tmp 18) 33 rfl W0.heap.size 5 i0 (.int .u8 0) 1 Tryz.underlying33 hi hz0 hz1 hz2 rfl _ (1 + np) (Bs L1) rfl HOW0.out _ B0 ne0 d0 (Bs (enc i)) rfl HOX0.out (Bs_one _) ?c1 ?c2 ?c3 ?_)
    case c1 => unfold maxLen; omega
    case c2 => omega
    case c3 => exact hsz0
    intro v0y w0y ho0y hg0y _
    rw [← Bs_append] at ho0y
    obtain ⟨L2, hL2⟩ : ∃ L, L1 ++ (enc i) = L := ⟨_, rfl⟩
    rw [hL2] at ho0y
    have HL2 := Lib.hid hL2
    clear hL2
    have hbz0 : Below W0.heap.size W0 w0y := hbx0.grown hg0y hsz0 (fun q hq => (HOW0.out.lt q hq).1)
    have HO0y := Lib.hid ho0y
    clear ho0y hg0y
    have c0 := (HRW.out _ hbz0).cell (k := 0) rfl
    have c3 := (HRW.out _ hbz0).cell (k := 3) rfl
    go_wp2_with fail
    refine (refnum_any f f _ (Nat.le_refl _) (by omega)).mono ?_
    rintro e wr1 ⟨u1x, rfl, ho1x, hb1x⟩
    obtain ⟨ne1, hne1⟩ : ∃ m, (enc f).length = m := ⟨_, rfl⟩
    rw [hne1] at ho1x
    have hne1l : ne1 ≤ 10 := by omega
    have HNE1 := Lib.hid hne1
    clear hne1
    obtain ⟨B1, d1, rfl⟩ := own_slice ho1x
    have hbx1 : Below W0.heap.size W0 wr1 := hbz0.trans (hb1x.mono hbz0.size)
    have HOW1 := Lib.hid (own_below HO0y.out hb1x)
    have HOX1 := Lib.hid (Rd.of_own ho1x)
    have hsz1 := hbx1.size
    clear ho1x c3 c0
    clear hb1x
    go_wp2_with (at_builtin; refine wpList_append_rd _ rfl (.tmp 28) (.tmp 31) 33 rfl W0.heap.size 5 i0 (.int .u8 0) 1 Tryz.underlying33 hi hz0 hz1 hz2 rfl _ ((1 + np) + ne0) (Bs L2) rfl HOW1.out _ B1 ne1 d1 (Bs (enc f)) rfl HOX1.out (Bs_one _) ?c1 ?c2 ?c3 ?_)
    case c1 => unfold maxLen; omega
    case c2 => omega
    case c3 => exact hsz1
    intro v1y w1y ho1y hg1y _
    rw [← Bs_append] at ho1y
    obtain ⟨L3, hL3⟩ : ∃ L, L2 ++ (enc f) = L := ⟨_, rfl⟩
    rw [hL3] at ho1y
    have HL3 := Lib.hid hL3
    clear hL3
    have hbz1 : Below W0.heap.size W0 w1y := hbx1.grown hg1y hsz1 (fun q hq => (HOW1.out.lt q hq).1)
    have HO1y := Lib.hid ho1y
    clear ho1y hg1y
    have c0 := (HRW.out _ hbz1).cell (k := 0) rfl
    have c4 := (HRW.out _ hbz1).cell (k := 4) rfl
    have c5 := (HRW.out _ hbz1).cell (k := 5) rfl
    have c6 := (HRW.out _ hbz1).cell (k := 6) rfl
    have c7 := (HRW.out _ hbz1).cell (k := 7) rfl
    have c8 := (HRW.out _ hbz1).cell (k := 8) rfl
    have c9 := (HRW.out _ hbz1).cell (k := 9) rfl
    go_wp2_with fail
    refine (valued_any 2 (by decide) _).mono ?_
    rintro e wv ⟨rfl, rfl⟩
    go_wp2_with fail
    refine (HVB.out _ hbz1).mono ?_
    rintro e wr2 ⟨u2x, rfl, ho2x, hb2x⟩
    obtain ⟨B2, d2, rfl⟩ := own_slice ho2x
    have hbx2 : Below W0.heap.size W0 wr2 := hbz1.trans (hb2x.mono hbz1.size)
    have HOW2 := Lib.hid (own_below HO1y.out hb2x)
    have HOX2 := Lib.hid (Rd.of_own ho2x)
    have hsz2 := hbx2.size
    clear ho2x c4 c5 c6 c7 c8 c9 c0
    clear hb2x
    go_wp2_with (at_builtin; refine wpList_append_rd _ rfl (.tmp 36) (.tmp 39) 33 rfl W0.heap.size 5 i0 (.int .u8 0) 1 Tryz.underlying33 hi hz0 hz1 hz2 rfl _ (((1 + np) + ne0) + ne1) (Bs L3) rfl HOW2.out _ B2 nv d2 (Bs vbs) rfl HOX2.out (Bs_one _) ?c1 ?c2 ?c3 ?_)
    case c1 => unfold maxLen; omega
    case c2 => omega
    case c3 => exact hsz2
    intro v2y w2y ho2y hg2y _
    rw [← Bs_append] at ho2y
    obtain ⟨L4, hL4⟩ : ∃ L, L3 ++ vbs = L := ⟨_, rfl⟩
    rw [hL4] at ho2y
    have HL4 := Lib.hid hL4
    clear hL4
    have hbz2 : Below W0.heap.size W0 w2y := hbx2.grown hg2y hsz2 (fun q hq => (HOW2.out.lt q hq).1)
    have HO2y := Lib.hid ho2y
    clear ho2y hg2y
    have c0 := (HRW.out _ hbz2).cell (k := 0) rfl
    go_wp2_with fail
    go_ret
    have hfin := HO2y.out
    have hkl : KL = L4 := by rw [HKL.out]; simp only [← HL4.out, ← HL3.out, ← HL2.out, ← HL1.out, List.append_assoc]
    have hlk : L4.length = ((((1 + np) + ne0) + ne1) + nv) := by have := hfin.1; rw [Bs_length] at this; omega
    refine ⟨_, rfl, ?_, HBW.out _ hbz2⟩
    rw [hkl, hlk]
    exact own_base hfin (by have := HS0.out; omega)

set_option maxHeartbeats 6400000 in
theorem obytes_3 (p : Option Addr) (n c : Nat) (i : Nat) (hi1 : i < 18446744073709551616) (vk vn : Int) (vs : ByteArray) (va : Option Addr) (vla vca : Nat) (vb : Option Addr) (vlb vcb : Nat) (vc : Option Addr) (vlc vcc : Nat) (pb : List UInt8) (hpl : pb.length ≤ 300) (w : World) (hp : ∀ wx, Below w.heap.size w wx → Calls Tryz.prog 24 #[.slice p n c] wx fun e w' => ∃ v, e = .returned v ∧ w'.ownsRow wx.heap.size 5 1 v pb.length (Bs pb) ∧ Below wx.heap.size wx w') (KL : List UInt8) (hKL : KL = [UInt8.ofNat 3] ++ pb ++ enc i) :
    Calls Tryz.prog 9 #[.agg (oC 3 p n c i 0 vk vn vs va vla vca vb vlb vcb vc vlc vcc).toArray] w fun e w' => ∃ x, e = .returned x ∧ w'.ownsRow w.heap.size 5 1 x KL.length (Bs KL) ∧ Below w.heap.size w w' := by
  obtain ⟨i0, hi, hz0, hz1, hz2⟩ := info_parts u8_info
  have HB0 := Lib.hid (below_newO w (.cells (oC 3 p n c i 0 vk vn vs va vla vca vb vlb vcb vc vlc vcc).toArray 30))
  have hs0 : (w.alloc (.cells (oC 3 p n c i 0 vk vn vs va vla vca vb vlb vcb vc vlc vcc).toArray 30)).heap.size = w.heap.size + 1 := by simp
  have hR := Row.new w (oC 3 p n c i 0 vk vn vs va vla vca vb vlb vcb vc vlc vcc) 30
  have HKL := Lib.hid hKL
  clear hKL
  have HS0 := Lib.hid hs0
  obtain ⟨np, hnp⟩ : ∃ np, pb.length = np := ⟨_, rfl⟩
  rw [hnp] at hp hpl
  have HNP := Lib.hid hnp
  clear hnp
  have hei := enc_length_le (n := i) (by omega)
  go_enter Tryz.func9, Tryz.ntmps9
  go_wp2_with fail
  generalize hW0 : (w.alloc (.cells (oC 3 p n c i 0 vk vn vs va vla vca vb vlb vcb vc vlc vcc).toArray 30)) = W0 at *
  have HRW := Lib.hid (fun (w' : World) (h : Below W0.heap.size W0 w') => hR.belowAll h)
  have HBW := Lib.hid (fun (w' : World) (h : Below W0.heap.size W0 w') => (show Below w.heap.size w w' from HB0.out.trans (h.mono HB0.out.size)))
  have HPB := Lib.hid (fun (w' : World) (h : Below W0.heap.size W0 w') => hp w' (HBW.out w' h))
  clear hp hR hW0 hs0
  have hbd : Below W0.heap.size W0 W0.drew := (Below.refl _ _).drew
  refine wp_region_held (S := fun w' : World => Below W0.heap.size W0 w') (by kernel_rfl) ?_
  change wpAnyH _ _ _ _ _ _ _ _ (World.drew _)
  have hS : (fun w' : World => Below W0.heap.size W0 w') (World.drew _) := hbd
  refine wpAnyH_take (i := 0) (v := ?_) rfl (by kernel_rfl) (by kernel_rfl) (by kernel_rfl) (fun _ _ _ h => h) (Or.inl ⟨by rfl, ?_⟩) hS ?_
  rotate_left
  · (intro w' hSw; go_simp; try (with_reducible rfl))
  change wpAnyH _ _ _ _ _ _ _ (Act.put _ (some 4) _) _
  try simp only [Act.put, List.setIfInBounds_toArray, List.set_cons_zero, List.set_cons_succ]
  refine wpAnyH_take (i := 1) (v := .int .i64 3) rfl (by kernel_rfl) (by kernel_rfl) (by kernel_rfl) (fun _ _ _ h => h) (Or.inl ⟨by rfl, fun w' hSw => ex_ldO 3 (.tmp 4) rfl _ _ rfl (ld_intO ((HRW.out w' hSw).cell (k := 0) rfl))⟩) hS ?_
  change wpAnyH _ _ _ _ _ _ _ (Act.put _ (some 5) _) _
  try simp only [Act.put, List.setIfInBounds_toArray, List.set_cons_zero, List.set_cons_succ]
  refine wpAnyH_take (i := 2) (v := ?_) rfl (by kernel_rfl) (by kernel_rfl) (by kernel_rfl) (fun _ _ _ h => h) (Or.inl ⟨by rfl, ?_⟩) hS ?_
  rotate_left
  · (intro w' hSw; go_simp; try (with_reducible rfl))
  change wpAnyH _ _ _ _ _ _ _ (Act.put _ (some 6) _) _
  try simp only [Act.put, List.setIfInBounds_toArray, List.set_cons_zero, List.set_cons_succ]
  refine wpAnyH_take (i := 4) (v := ?_) rfl (by kernel_rfl) (by kernel_rfl) (by kernel_rfl) (fun _ _ _ h => h) (Or.inl ⟨by rfl, ?_⟩) hS ?_
  rotate_left
  · (intro w' hSw; go_simp; try (with_reducible rfl))
  change wpAnyH _ _ _ _ _ _ _ (Act.put _ (some 8) _) _
  try simp only [Act.put, List.setIfInBounds_toArray, List.set_cons_zero, List.set_cons_succ]
  refine wpAnyH_take (i := 5) (v := .slice p n c) rfl (by kernel_rfl) (by kernel_rfl) (by kernel_rfl) (fun _ _ _ h => h) (Or.inl ⟨by rfl, fun w' hSw => ex_ldO 22 (.tmp 8) rfl _ _ rfl (ld_stpsO ((HRW.out w' hSw).cell (k := 1) rfl))⟩) hS ?_
  change wpAnyH _ _ _ _ _ _ _ (Act.put _ (some 9) _) _
  try simp only [Act.put, List.setIfInBounds_toArray, List.set_cons_zero, List.set_cons_succ]
  generalize hWc : World.drew W0 = Wc at *
  clear hWc
  refine wpAnyH_ready (rs := [3, 6]) (by kernel_rfl) (by simp) ?_
  refine AllReadyH.cons rfl (fun K hK => ?_) (AllReadyH.cons rfl (fun K hK => ?_) AllReadyH.nil)
  · rw [if_pos (by kernel_rfl)]
    have hS0 : W0.heap.size ≤ Wc.heap.size := hS.size
    refine wp_build1O (.tmp 6) rfl 3 rfl ?_
    refine hK.out _ _ (hS.alloc hS.size _) (fun hS1 => ?_)
    clear hK K hS
    have hS := hS1
    clear hS1
    change wpAnyH _ _ _ _ _ _ _ (Act.put _ (some 7) _) _
    try simp only [Act.put, List.setIfInBounds_toArray, List.set_cons_zero, List.set_cons_succ]
    refine wpAnyH_ready (rs := [6]) (by kernel_rfl) (by simp) ?_
    refine AllReadyH.cons rfl (fun K hK => ?_) AllReadyH.nil
    rw [if_pos (by kernel_rfl)]
    go_simp
    refine (HPB.out _ hS).mono ?_
    rintro e w1 ⟨v1, rfl, ho1, hb1⟩
    obtain ⟨A1, c1, rfl⟩ := own_slice ho1
    have hS2 : Below W0.heap.size W0 w1 := hS.trans (hb1.mono hS.size)
    have hm := own_below (own_oneO Wc 3 (by decide)) hb1
    have hm := own_base hm hS0
    refine hK.out _ _ (hS2) (fun hS1 => ?_)
    clear hK K hS hS2
    have hS := hS1
    clear hS1
    try simp only [Act.put, List.setIfInBounds_toArray, List.set_cons_zero, List.set_cons_succ]
    refine wpAnyH_ready (rs := [7]) (by kernel_rfl) (by simp) ?_
    refine AllReadyH.cons rfl (fun K hK => ?_) AllReadyH.nil
    rw [if_pos (by kernel_rfl)]
    refine wp_append_rdO (.tmp 7) (.tmp 10) 33 rfl W0.heap.size 5 i0 (.int .u8 0) 1 Tryz.underlying33 hi hz0 hz1 hz2 rfl (.slice (some ⟨Wc.heap.size, 0, none⟩) 1 1) 1 _ rfl (hm) _ A1 np c1 (Bs pb) rfl (Rd.of_own ho1) (Bs_one _) (by unfold maxLen; omega) (by omega) hS.size ?_
    intro v7 w7 ho7 hg7
    have hb7 : Below W0.heap.size W0 w7 := hS.grown hg7 hS.size (fun q hq => ((hm).lt q hq).1)
    refine hK.out _ _ (hb7) (fun hS1 => ?_)
    clear hK K hS
    have hS := hS1
    clear hS1
    change wpAnyH _ _ _ _ _ _ _ (Act.put _ (some 11) _) _
    try simp only [Act.put, List.setIfInBounds_toArray, List.set_cons_zero, List.set_cons_succ]
    refine wpAnyH_take (i := 8) (v := ?_) rfl (by kernel_rfl) (by kernel_rfl) (by kernel_rfl) (fun _ _ _ h => h) (Or.inl ⟨by rfl, ?_⟩) hS ?_
    rotate_left
    · (intro w' hSw; go_simp; try (with_reducible rfl))
    change wpAnyH _ _ _ _ _ _ _ (Act.put _ (some 3) _) _
    try simp only [Act.put, List.setIfInBounds_toArray, List.set_cons_zero, List.set_cons_succ]
    refine wpAnyH_done (by kernel_rfl) ?_ _
    rw [← Bs_append] at ho7
    obtain ⟨L1, hL1⟩ : ∃ L, [UInt8.ofNat 3] ++ pb = L := ⟨_, rfl⟩
    rw [hL1] at ho7
    have HL1 := Lib.hid hL1
    clear hg7 ho1 hL1
    have HO := Lib.hid ho7
    clear ho7
    have c0 := (HRW.out _ hS).cell (k := 0) rfl
    have c2 := (HRW.out _ hS).cell (k := 2) rfl
    go_wp2_with fail
    refine (refnum_any i i _ (Nat.le_refl _) (by omega)).mono ?_
    rintro e wr0 ⟨u0x, rfl, ho0x, hb0x⟩
    obtain ⟨ne0, hne0⟩ : ∃ m, (enc i).length = m := ⟨_, rfl⟩
    rw [hne0] at ho0x
    have hne0l : ne0 ≤ 10 := by omega
    have HNE0 := Lib.hid hne0
    clear hne0
    obtain ⟨B0, d0, rfl⟩ := own_slice ho0x
    have hbx0 : Below W0.heap.size W0 wr0 := hS.trans (hb0x.mono hS.size)
    have HOW0 := Lib.hid (own_below HO.out hb0x)
    have HOX0 := Lib.hid (Rd.of_own ho0x)
    have hsz0 := hbx0.size
    clear ho0x c2 c0
    clear hb0x
    go_wp2_with (at_builtin; refine wpList_append_rd _ rfl (.tmp 15) (.tmp 18) 33 rfl W0.heap.size 5 i0 (.int .u8 0) 1 Tryz.underlying33 hi hz0 hz1 hz2 rfl _ (1 + np) (Bs L1) rfl HOW0.out _ B0 ne0 d0 (Bs (enc i)) rfl HOX0.out (Bs_one _) ?c1 ?c2 ?c3 ?_)
    case c1 => unfold maxLen; omega
    case c2 => omega
    case c3 => exact hsz0
    intro v0y w0y ho0y hg0y _
    rw [← Bs_append] at ho0y
    obtain ⟨L2, hL2⟩ : ∃ L, L1 ++ (enc i) = L := ⟨_, rfl⟩
    rw [hL2] at ho0y
    have HL2 := Lib.hid hL2
    clear hL2
    have hbz0 : Below W0.heap.size W0 w0y := hbx0.grown hg0y hsz0 (fun q hq => (HOW0.out.lt q hq).1)
    have HO0y := Lib.hid ho0y
    clear ho0y hg0y
    have c0 := (HRW.out _ hbz0).cell (k := 0) rfl
    go_wp2_with fail
    refine (valued_any 3 (by decide) _).mono ?_
    rintro e wv ⟨rfl, rfl⟩
    go_wp2_with fail
    go_ret
    have hfin := HO0y.out
    have hkl : KL = L2 := by rw [HKL.out]; simp only [← HL2.out, ← HL1.out, List.append_assoc]
    have hlk : L2.length = ((1 + np) + ne0) := by have := hfin.1; rw [Bs_length] at this; omega
    refine ⟨_, rfl, ?_, HBW.out _ hbz0⟩
    rw [hkl, hlk]
    exact own_base hfin (by have := HS0.out; omega)
  · rw [if_pos (by kernel_rfl)]
    go_simp
    refine (HPB.out _ hS).mono ?_
    rintro e w1 ⟨v1, rfl, ho1, hb1⟩
    obtain ⟨A1, c1, rfl⟩ := own_slice ho1
    have hS2 : Below W0.heap.size W0 w1 := hS.trans (hb1.mono hS.size)
    refine hK.out _ _ (hS2) (fun hS1 => ?_)
    clear hK K hS hS2
    have hS := hS1
    clear hS1
    try simp only [Act.put, List.setIfInBounds_toArray, List.set_cons_zero, List.set_cons_succ]
    refine wpAnyH_ready (rs := [3]) (by kernel_rfl) (by simp) ?_
    refine AllReadyH.cons rfl (fun K hK => ?_) AllReadyH.nil
    have hm := own_base (own_oneO w1 3 (by decide)) hS.size
    have ho2 := own_below ho1 (below_newO w1 (.cells #[.int .u8 (3 : Nat)] 5))
    rw [if_pos (by kernel_rfl)]
    refine wp_build1O (.tmp 6) rfl 3 rfl ?_
    refine hK.out _ _ (hS.alloc hS.size _) (fun hS1 => ?_)
    clear hK K hS
    have hS := hS1
    clear hS1
    change wpAnyH _ _ _ _ _ _ _ (Act.put _ (some 7) _) _
    try simp only [Act.put, List.setIfInBounds_toArray, List.set_cons_zero, List.set_cons_succ]
    refine wpAnyH_ready (rs := [7]) (by kernel_rfl) (by simp) ?_
    refine AllReadyH.cons rfl (fun K hK => ?_) AllReadyH.nil
    rw [if_pos (by kernel_rfl)]
    refine wp_append_rdO (.tmp 7) (.tmp 10) 33 rfl W0.heap.size 5 i0 (.int .u8 0) 1 Tryz.underlying33 hi hz0 hz1 hz2 rfl (.slice (some ⟨w1.heap.size, 0, none⟩) 1 1) 1 _ rfl (hm) _ A1 np c1 (Bs pb) rfl (Rd.of_own ho2) (Bs_one _) (by unfold maxLen; omega) (by omega) hS.size ?_
    intro v7 w7 ho7 hg7
    have hb7 : Below W0.heap.size W0 w7 := hS.grown hg7 hS.size (fun q hq => ((hm).lt q hq).1)
    refine hK.out _ _ (hb7) (fun hS1 => ?_)
    clear hK K hS
    have hS := hS1
    clear hS1
    change wpAnyH _ _ _ _ _ _ _ (Act.put _ (some 11) _) _
    try simp only [Act.put, List.setIfInBounds_toArray, List.set_cons_zero, List.set_cons_succ]
    refine wpAnyH_take (i := 8) (v := ?_) rfl (by kernel_rfl) (by kernel_rfl) (by kernel_rfl) (fun _ _ _ h => h) (Or.inl ⟨by rfl, ?_⟩) hS ?_
    rotate_left
    · (intro w' hSw; go_simp; try (with_reducible rfl))
    change wpAnyH _ _ _ _ _ _ _ (Act.put _ (some 3) _) _
    try simp only [Act.put, List.setIfInBounds_toArray, List.set_cons_zero, List.set_cons_succ]
    refine wpAnyH_done (by kernel_rfl) ?_ _
    rw [← Bs_append] at ho7
    obtain ⟨L1, hL1⟩ : ∃ L, [UInt8.ofNat 3] ++ pb = L := ⟨_, rfl⟩
    rw [hL1] at ho7
    have HL1 := Lib.hid hL1
    clear hg7 ho1 hL1
    have HO := Lib.hid ho7
    clear ho7
    have c0 := (HRW.out _ hS).cell (k := 0) rfl
    have c2 := (HRW.out _ hS).cell (k := 2) rfl
    go_wp2_with fail
    refine (refnum_any i i _ (Nat.le_refl _) (by omega)).mono ?_
    rintro e wr0 ⟨u0x, rfl, ho0x, hb0x⟩
    obtain ⟨ne0, hne0⟩ : ∃ m, (enc i).length = m := ⟨_, rfl⟩
    rw [hne0] at ho0x
    have hne0l : ne0 ≤ 10 := by omega
    have HNE0 := Lib.hid hne0
    clear hne0
    obtain ⟨B0, d0, rfl⟩ := own_slice ho0x
    have hbx0 : Below W0.heap.size W0 wr0 := hS.trans (hb0x.mono hS.size)
    have HOW0 := Lib.hid (own_below HO.out hb0x)
    have HOX0 := Lib.hid (Rd.of_own ho0x)
    have hsz0 := hbx0.size
    clear ho0x c2 c0
    clear hb0x
    go_wp2_with (at_builtin; refine wpList_append_rd _ rfl (.tmp 15) (.tmp 18) 33 rfl W0.heap.size 5 i0 (.int .u8 0) 1 Tryz.underlying33 hi hz0 hz1 hz2 rfl _ (1 + np) (Bs L1) rfl HOW0.out _ B0 ne0 d0 (Bs (enc i)) rfl HOX0.out (Bs_one _) ?c1 ?c2 ?c3 ?_)
    case c1 => unfold maxLen; omega
    case c2 => omega
    case c3 => exact hsz0
    intro v0y w0y ho0y hg0y _
    rw [← Bs_append] at ho0y
    obtain ⟨L2, hL2⟩ : ∃ L, L1 ++ (enc i) = L := ⟨_, rfl⟩
    rw [hL2] at ho0y
    have HL2 := Lib.hid hL2
    clear hL2
    have hbz0 : Below W0.heap.size W0 w0y := hbx0.grown hg0y hsz0 (fun q hq => (HOW0.out.lt q hq).1)
    have HO0y := Lib.hid ho0y
    clear ho0y hg0y
    have c0 := (HRW.out _ hbz0).cell (k := 0) rfl
    go_wp2_with fail
    refine (valued_any 3 (by decide) _).mono ?_
    rintro e wv ⟨rfl, rfl⟩
    go_wp2_with fail
    go_ret
    have hfin := HO0y.out
    have hkl : KL = L2 := by rw [HKL.out]; simp only [← HL2.out, ← HL1.out, List.append_assoc]
    have hlk : L2.length = ((1 + np) + ne0) := by have := hfin.1; rw [Bs_length] at this; omega
    refine ⟨_, rfl, ?_, HBW.out _ hbz0⟩
    rw [hkl, hlk]
    exact own_base hfin (by have := HS0.out; omega)

set_option maxHeartbeats 6400000 in
theorem obytes_4 (p : Option Addr) (n c : Nat) (i f : Nat) (hi1 : i < 18446744073709551616) (hf1 : f < 18446744073709551616) (vk vn : Int) (vs : ByteArray) (va : Option Addr) (vla vca : Nat) (vb : Option Addr) (vlb vcb : Nat) (vc : Option Addr) (vlc vcc : Nat) (pb : List UInt8) (hpl : pb.length ≤ 300) (w : World) (hp : ∀ wx, Below w.heap.size w wx → Calls Tryz.prog 24 #[.slice p n c] wx fun e w' => ∃ v, e = .returned v ∧ w'.ownsRow wx.heap.size 5 1 v pb.length (Bs pb) ∧ Below wx.heap.size wx w') (KL : List UInt8) (hKL : KL = [UInt8.ofNat 4] ++ pb ++ enc i ++ enc f) :
    Calls Tryz.prog 9 #[.agg (oC 4 p n c i f vk vn vs va vla vca vb vlb vcb vc vlc vcc).toArray] w fun e w' => ∃ x, e = .returned x ∧ w'.ownsRow w.heap.size 5 1 x KL.length (Bs KL) ∧ Below w.heap.size w w' := by
  obtain ⟨i0, hi, hz0, hz1, hz2⟩ := info_parts u8_info
  have HB0 := Lib.hid (below_newO w (.cells (oC 4 p n c i f vk vn vs va vla vca vb vlb vcb vc vlc vcc).toArray 30))
  have hs0 : (w.alloc (.cells (oC 4 p n c i f vk vn vs va vla vca vb vlb vcb vc vlc vcc).toArray 30)).heap.size = w.heap.size + 1 := by simp
  have hR := Row.new w (oC 4 p n c i f vk vn vs va vla vca vb vlb vcb vc vlc vcc) 30
  have HKL := Lib.hid hKL
  clear hKL
  have HS0 := Lib.hid hs0
  obtain ⟨np, hnp⟩ : ∃ np, pb.length = np := ⟨_, rfl⟩
  rw [hnp] at hp hpl
  have HNP := Lib.hid hnp
  clear hnp
  have hei := enc_length_le (n := i) (by omega)
  have hef := enc_length_le (n := f) (by omega)
  go_enter Tryz.func9, Tryz.ntmps9
  go_wp2_with fail
  generalize hW0 : (w.alloc (.cells (oC 4 p n c i f vk vn vs va vla vca vb vlb vcb vc vlc vcc).toArray 30)) = W0 at *
  have HRW := Lib.hid (fun (w' : World) (h : Below W0.heap.size W0 w') => hR.belowAll h)
  have HBW := Lib.hid (fun (w' : World) (h : Below W0.heap.size W0 w') => (show Below w.heap.size w w' from HB0.out.trans (h.mono HB0.out.size)))
  have HPB := Lib.hid (fun (w' : World) (h : Below W0.heap.size W0 w') => hp w' (HBW.out w' h))
  clear hp hR hW0 hs0
  have hbd : Below W0.heap.size W0 W0.drew := (Below.refl _ _).drew
  refine wp_region_held (S := fun w' : World => Below W0.heap.size W0 w') (by kernel_rfl) ?_
  change wpAnyH _ _ _ _ _ _ _ _ (World.drew _)
  have hS : (fun w' : World => Below W0.heap.size W0 w') (World.drew _) := hbd
  refine wpAnyH_take (i := 0) (v := ?_) rfl (by kernel_rfl) (by kernel_rfl) (by kernel_rfl) (fun _ _ _ h => h) (Or.inl ⟨by rfl, ?_⟩) hS ?_
  rotate_left
  · (intro w' hSw; go_simp; try (with_reducible rfl))
  change wpAnyH _ _ _ _ _ _ _ (Act.put _ (some 4) _) _
  try simp only [Act.put, List.setIfInBounds_toArray, List.set_cons_zero, List.set_cons_succ]
  refine wpAnyH_take (i := 1) (v := .int .i64 4) rfl (by kernel_rfl) (by kernel_rfl) (by kernel_rfl) (fun _ _ _ h => h) (Or.inl ⟨by rfl, fun w' hSw => ex_ldO 3 (.tmp 4) rfl _ _ rfl (ld_intO ((HRW.out w' hSw).cell (k := 0) rfl))⟩) hS ?_
  change wpAnyH _ _ _ _ _ _ _ (Act.put _ (some 5) _) _
  try simp only [Act.put, List.setIfInBounds_toArray, List.set_cons_zero, List.set_cons_succ]
  refine wpAnyH_take (i := 2) (v := ?_) rfl (by kernel_rfl) (by kernel_rfl) (by kernel_rfl) (fun _ _ _ h => h) (Or.inl ⟨by rfl, ?_⟩) hS ?_
  rotate_left
  · (intro w' hSw; go_simp; try (with_reducible rfl))
  change wpAnyH _ _ _ _ _ _ _ (Act.put _ (some 6) _) _
  try simp only [Act.put, List.setIfInBounds_toArray, List.set_cons_zero, List.set_cons_succ]
  refine wpAnyH_take (i := 4) (v := ?_) rfl (by kernel_rfl) (by kernel_rfl) (by kernel_rfl) (fun _ _ _ h => h) (Or.inl ⟨by rfl, ?_⟩) hS ?_
  rotate_left
  · (intro w' hSw; go_simp; try (with_reducible rfl))
  change wpAnyH _ _ _ _ _ _ _ (Act.put _ (some 8) _) _
  try simp only [Act.put, List.setIfInBounds_toArray, List.set_cons_zero, List.set_cons_succ]
  refine wpAnyH_take (i := 5) (v := .slice p n c) rfl (by kernel_rfl) (by kernel_rfl) (by kernel_rfl) (fun _ _ _ h => h) (Or.inl ⟨by rfl, fun w' hSw => ex_ldO 22 (.tmp 8) rfl _ _ rfl (ld_stpsO ((HRW.out w' hSw).cell (k := 1) rfl))⟩) hS ?_
  change wpAnyH _ _ _ _ _ _ _ (Act.put _ (some 9) _) _
  try simp only [Act.put, List.setIfInBounds_toArray, List.set_cons_zero, List.set_cons_succ]
  generalize hWc : World.drew W0 = Wc at *
  clear hWc
  refine wpAnyH_ready (rs := [3, 6]) (by kernel_rfl) (by simp) ?_
  refine AllReadyH.cons rfl (fun K hK => ?_) (AllReadyH.cons rfl (fun K hK => ?_) AllReadyH.nil)
  · rw [if_pos (by kernel_rfl)]
    have hS0 : W0.heap.size ≤ Wc.heap.size := hS.size
    refine wp_build1O (.tmp 6) rfl 4 rfl ?_
    refine hK.out _ _ (hS.alloc hS.size _) (fun hS1 => ?_)
    clear hK K hS
    have hS := hS1
    clear hS1
    change wpAnyH _ _ _ _ _ _ _ (Act.put _ (some 7) _) _
    try simp only [Act.put, List.setIfInBounds_toArray, List.set_cons_zero, List.set_cons_succ]
    refine wpAnyH_ready (rs := [6]) (by kernel_rfl) (by simp) ?_
    refine AllReadyH.cons rfl (fun K hK => ?_) AllReadyH.nil
    rw [if_pos (by kernel_rfl)]
    go_simp
    refine (HPB.out _ hS).mono ?_
    rintro e w1 ⟨v1, rfl, ho1, hb1⟩
    obtain ⟨A1, c1, rfl⟩ := own_slice ho1
    have hS2 : Below W0.heap.size W0 w1 := hS.trans (hb1.mono hS.size)
    have hm := own_below (own_oneO Wc 4 (by decide)) hb1
    have hm := own_base hm hS0
    refine hK.out _ _ (hS2) (fun hS1 => ?_)
    clear hK K hS hS2
    have hS := hS1
    clear hS1
    try simp only [Act.put, List.setIfInBounds_toArray, List.set_cons_zero, List.set_cons_succ]
    refine wpAnyH_ready (rs := [7]) (by kernel_rfl) (by simp) ?_
    refine AllReadyH.cons rfl (fun K hK => ?_) AllReadyH.nil
    rw [if_pos (by kernel_rfl)]
    refine wp_append_rdO (.tmp 7) (.tmp 10) 33 rfl W0.heap.size 5 i0 (.int .u8 0) 1 Tryz.underlying33 hi hz0 hz1 hz2 rfl (.slice (some ⟨Wc.heap.size, 0, none⟩) 1 1) 1 _ rfl (hm) _ A1 np c1 (Bs pb) rfl (Rd.of_own ho1) (Bs_one _) (by unfold maxLen; omega) (by omega) hS.size ?_
    intro v7 w7 ho7 hg7
    have hb7 : Below W0.heap.size W0 w7 := hS.grown hg7 hS.size (fun q hq => ((hm).lt q hq).1)
    refine hK.out _ _ (hb7) (fun hS1 => ?_)
    clear hK K hS
    have hS := hS1
    clear hS1
    change wpAnyH _ _ _ _ _ _ _ (Act.put _ (some 11) _) _
    try simp only [Act.put, List.setIfInBounds_toArray, List.set_cons_zero, List.set_cons_succ]
    refine wpAnyH_take (i := 8) (v := ?_) rfl (by kernel_rfl) (by kernel_rfl) (by kernel_rfl) (fun _ _ _ h => h) (Or.inl ⟨by rfl, ?_⟩) hS ?_
    rotate_left
    · (intro w' hSw; go_simp; try (with_reducible rfl))
    change wpAnyH _ _ _ _ _ _ _ (Act.put _ (some 3) _) _
    try simp only [Act.put, List.setIfInBounds_toArray, List.set_cons_zero, List.set_cons_succ]
    refine wpAnyH_done (by kernel_rfl) ?_ _
    rw [← Bs_append] at ho7
    obtain ⟨L1, hL1⟩ : ∃ L, [UInt8.ofNat 4] ++ pb = L := ⟨_, rfl⟩
    rw [hL1] at ho7
    have HL1 := Lib.hid hL1
    clear hg7 ho1 hL1
    have HO := Lib.hid ho7
    clear ho7
    have c0 := (HRW.out _ hS).cell (k := 0) rfl
    have c2 := (HRW.out _ hS).cell (k := 2) rfl
    go_wp2_with fail
    refine (refnum_any i i _ (Nat.le_refl _) (by omega)).mono ?_
    rintro e wr0 ⟨u0x, rfl, ho0x, hb0x⟩
    obtain ⟨ne0, hne0⟩ : ∃ m, (enc i).length = m := ⟨_, rfl⟩
    rw [hne0] at ho0x
    have hne0l : ne0 ≤ 10 := by omega
    have HNE0 := Lib.hid hne0
    clear hne0
    obtain ⟨B0, d0, rfl⟩ := own_slice ho0x
    have hbx0 : Below W0.heap.size W0 wr0 := hS.trans (hb0x.mono hS.size)
    have HOW0 := Lib.hid (own_below HO.out hb0x)
    have HOX0 := Lib.hid (Rd.of_own ho0x)
    have hsz0 := hbx0.size
    clear ho0x c2 c0
    clear hb0x
    go_wp2_with (at_builtin; refine wpList_append_rd _ rfl (.tmp 15) (.tmp 18) 33 rfl W0.heap.size 5 i0 (.int .u8 0) 1 Tryz.underlying33 hi hz0 hz1 hz2 rfl _ (1 + np) (Bs L1) rfl HOW0.out _ B0 ne0 d0 (Bs (enc i)) rfl HOX0.out (Bs_one _) ?c1 ?c2 ?c3 ?_)
    case c1 => unfold maxLen; omega
    case c2 => omega
    case c3 => exact hsz0
    intro v0y w0y ho0y hg0y _
    rw [← Bs_append] at ho0y
    obtain ⟨L2, hL2⟩ : ∃ L, L1 ++ (enc i) = L := ⟨_, rfl⟩
    rw [hL2] at ho0y
    have HL2 := Lib.hid hL2
    clear hL2
    have hbz0 : Below W0.heap.size W0 w0y := hbx0.grown hg0y hsz0 (fun q hq => (HOW0.out.lt q hq).1)
    have HO0y := Lib.hid ho0y
    clear ho0y hg0y
    have c0 := (HRW.out _ hbz0).cell (k := 0) rfl
    have c3 := (HRW.out _ hbz0).cell (k := 3) rfl
    go_wp2_with fail
    refine (refnum_any f f _ (Nat.le_refl _) (by omega)).mono ?_
    rintro e wr1 ⟨u1x, rfl, ho1x, hb1x⟩
    obtain ⟨ne1, hne1⟩ : ∃ m, (enc f).length = m := ⟨_, rfl⟩
    rw [hne1] at ho1x
    have hne1l : ne1 ≤ 10 := by omega
    have HNE1 := Lib.hid hne1
    clear hne1
    obtain ⟨B1, d1, rfl⟩ := own_slice ho1x
    have hbx1 : Below W0.heap.size W0 wr1 := hbz0.trans (hb1x.mono hbz0.size)
    have HOW1 := Lib.hid (own_below HO0y.out hb1x)
    have HOX1 := Lib.hid (Rd.of_own ho1x)
    have hsz1 := hbx1.size
    clear ho1x c3 c0
    clear hb1x
    go_wp2_with (at_builtin; refine wpList_append_rd _ rfl (.tmp 28) (.tmp 31) 33 rfl W0.heap.size 5 i0 (.int .u8 0) 1 Tryz.underlying33 hi hz0 hz1 hz2 rfl _ ((1 + np) + ne0) (Bs L2) rfl HOW1.out _ B1 ne1 d1 (Bs (enc f)) rfl HOX1.out (Bs_one _) ?c1 ?c2 ?c3 ?_)
    case c1 => unfold maxLen; omega
    case c2 => omega
    case c3 => exact hsz1
    intro v1y w1y ho1y hg1y _
    rw [← Bs_append] at ho1y
    obtain ⟨L3, hL3⟩ : ∃ L, L2 ++ (enc f) = L := ⟨_, rfl⟩
    rw [hL3] at ho1y
    have HL3 := Lib.hid hL3
    clear hL3
    have hbz1 : Below W0.heap.size W0 w1y := hbx1.grown hg1y hsz1 (fun q hq => (HOW1.out.lt q hq).1)
    have HO1y := Lib.hid ho1y
    clear ho1y hg1y
    have c0 := (HRW.out _ hbz1).cell (k := 0) rfl
    go_wp2_with fail
    refine (valued_any 4 (by decide) _).mono ?_
    rintro e wv ⟨rfl, rfl⟩
    go_wp2_with fail
    go_ret
    have hfin := HO1y.out
    have hkl : KL = L3 := by rw [HKL.out]; simp only [← HL3.out, ← HL2.out, ← HL1.out, List.append_assoc]
    have hlk : L3.length = (((1 + np) + ne0) + ne1) := by have := hfin.1; rw [Bs_length] at this; omega
    refine ⟨_, rfl, ?_, HBW.out _ hbz1⟩
    rw [hkl, hlk]
    exact own_base hfin (by have := HS0.out; omega)
  · rw [if_pos (by kernel_rfl)]
    go_simp
    refine (HPB.out _ hS).mono ?_
    rintro e w1 ⟨v1, rfl, ho1, hb1⟩
    obtain ⟨A1, c1, rfl⟩ := own_slice ho1
    have hS2 : Below W0.heap.size W0 w1 := hS.trans (hb1.mono hS.size)
    refine hK.out _ _ (hS2) (fun hS1 => ?_)
    clear hK K hS hS2
    have hS := hS1
    clear hS1
    try simp only [Act.put, List.setIfInBounds_toArray, List.set_cons_zero, List.set_cons_succ]
    refine wpAnyH_ready (rs := [3]) (by kernel_rfl) (by simp) ?_
    refine AllReadyH.cons rfl (fun K hK => ?_) AllReadyH.nil
    have hm := own_base (own_oneO w1 4 (by decide)) hS.size
    have ho2 := own_below ho1 (below_newO w1 (.cells #[.int .u8 (4 : Nat)] 5))
    rw [if_pos (by kernel_rfl)]
    refine wp_build1O (.tmp 6) rfl 4 rfl ?_
    refine hK.out _ _ (hS.alloc hS.size _) (fun hS1 => ?_)
    clear hK K hS
    have hS := hS1
    clear hS1
    change wpAnyH _ _ _ _ _ _ _ (Act.put _ (some 7) _) _
    try simp only [Act.put, List.setIfInBounds_toArray, List.set_cons_zero, List.set_cons_succ]
    refine wpAnyH_ready (rs := [7]) (by kernel_rfl) (by simp) ?_
    refine AllReadyH.cons rfl (fun K hK => ?_) AllReadyH.nil
    rw [if_pos (by kernel_rfl)]
    refine wp_append_rdO (.tmp 7) (.tmp 10) 33 rfl W0.heap.size 5 i0 (.int .u8 0) 1 Tryz.underlying33 hi hz0 hz1 hz2 rfl (.slice (some ⟨w1.heap.size, 0, none⟩) 1 1) 1 _ rfl (hm) _ A1 np c1 (Bs pb) rfl (Rd.of_own ho2) (Bs_one _) (by unfold maxLen; omega) (by omega) hS.size ?_
    intro v7 w7 ho7 hg7
    have hb7 : Below W0.heap.size W0 w7 := hS.grown hg7 hS.size (fun q hq => ((hm).lt q hq).1)
    refine hK.out _ _ (hb7) (fun hS1 => ?_)
    clear hK K hS
    have hS := hS1
    clear hS1
    change wpAnyH _ _ _ _ _ _ _ (Act.put _ (some 11) _) _
    try simp only [Act.put, List.setIfInBounds_toArray, List.set_cons_zero, List.set_cons_succ]
    refine wpAnyH_take (i := 8) (v := ?_) rfl (by kernel_rfl) (by kernel_rfl) (by kernel_rfl) (fun _ _ _ h => h) (Or.inl ⟨by rfl, ?_⟩) hS ?_
    rotate_left
    · (intro w' hSw; go_simp; try (with_reducible rfl))
    change wpAnyH _ _ _ _ _ _ _ (Act.put _ (some 3) _) _
    try simp only [Act.put, List.setIfInBounds_toArray, List.set_cons_zero, List.set_cons_succ]
    refine wpAnyH_done (by kernel_rfl) ?_ _
    rw [← Bs_append] at ho7
    obtain ⟨L1, hL1⟩ : ∃ L, [UInt8.ofNat 4] ++ pb = L := ⟨_, rfl⟩
    rw [hL1] at ho7
    have HL1 := Lib.hid hL1
    clear hg7 ho1 hL1
    have HO := Lib.hid ho7
    clear ho7
    have c0 := (HRW.out _ hS).cell (k := 0) rfl
    have c2 := (HRW.out _ hS).cell (k := 2) rfl
    go_wp2_with fail
    refine (refnum_any i i _ (Nat.le_refl _) (by omega)).mono ?_
    rintro e wr0 ⟨u0x, rfl, ho0x, hb0x⟩
    obtain ⟨ne0, hne0⟩ : ∃ m, (enc i).length = m := ⟨_, rfl⟩
    rw [hne0] at ho0x
    have hne0l : ne0 ≤ 10 := by omega
    have HNE0 := Lib.hid hne0
    clear hne0
    obtain ⟨B0, d0, rfl⟩ := own_slice ho0x
    have hbx0 : Below W0.heap.size W0 wr0 := hS.trans (hb0x.mono hS.size)
    have HOW0 := Lib.hid (own_below HO.out hb0x)
    have HOX0 := Lib.hid (Rd.of_own ho0x)
    have hsz0 := hbx0.size
    clear ho0x c2 c0
    clear hb0x
    go_wp2_with (at_builtin; refine wpList_append_rd _ rfl (.tmp 15) (.tmp 18) 33 rfl W0.heap.size 5 i0 (.int .u8 0) 1 Tryz.underlying33 hi hz0 hz1 hz2 rfl _ (1 + np) (Bs L1) rfl HOW0.out _ B0 ne0 d0 (Bs (enc i)) rfl HOX0.out (Bs_one _) ?c1 ?c2 ?c3 ?_)
    case c1 => unfold maxLen; omega
    case c2 => omega
    case c3 => exact hsz0
    intro v0y w0y ho0y hg0y _
    rw [← Bs_append] at ho0y
    obtain ⟨L2, hL2⟩ : ∃ L, L1 ++ (enc i) = L := ⟨_, rfl⟩
    rw [hL2] at ho0y
    have HL2 := Lib.hid hL2
    clear hL2
    have hbz0 : Below W0.heap.size W0 w0y := hbx0.grown hg0y hsz0 (fun q hq => (HOW0.out.lt q hq).1)
    have HO0y := Lib.hid ho0y
    clear ho0y hg0y
    have c0 := (HRW.out _ hbz0).cell (k := 0) rfl
    have c3 := (HRW.out _ hbz0).cell (k := 3) rfl
    go_wp2_with fail
    refine (refnum_any f f _ (Nat.le_refl _) (by omega)).mono ?_
    rintro e wr1 ⟨u1x, rfl, ho1x, hb1x⟩
    obtain ⟨ne1, hne1⟩ : ∃ m, (enc f).length = m := ⟨_, rfl⟩
    rw [hne1] at ho1x
    have hne1l : ne1 ≤ 10 := by omega
    have HNE1 := Lib.hid hne1
    clear hne1
    obtain ⟨B1, d1, rfl⟩ := own_slice ho1x
    have hbx1 : Below W0.heap.size W0 wr1 := hbz0.trans (hb1x.mono hbz0.size)
    have HOW1 := Lib.hid (own_below HO0y.out hb1x)
    have HOX1 := Lib.hid (Rd.of_own ho1x)
    have hsz1 := hbx1.size
    clear ho1x c3 c0
    clear hb1x
    go_wp2_with (at_builtin; refine wpList_append_rd _ rfl (.tmp 28) (.tmp 31) 33 rfl W0.heap.size 5 i0 (.int .u8 0) 1 Tryz.underlying33 hi hz0 hz1 hz2 rfl _ ((1 + np) + ne0) (Bs L2) rfl HOW1.out _ B1 ne1 d1 (Bs (enc f)) rfl HOX1.out (Bs_one _) ?c1 ?c2 ?c3 ?_)
    case c1 => unfold maxLen; omega
    case c2 => omega
    case c3 => exact hsz1
    intro v1y w1y ho1y hg1y _
    rw [← Bs_append] at ho1y
    obtain ⟨L3, hL3⟩ : ∃ L, L2 ++ (enc f) = L := ⟨_, rfl⟩
    rw [hL3] at ho1y
    have HL3 := Lib.hid hL3
    clear hL3
    have hbz1 : Below W0.heap.size W0 w1y := hbx1.grown hg1y hsz1 (fun q hq => (HOW1.out.lt q hq).1)
    have HO1y := Lib.hid ho1y
    clear ho1y hg1y
    have c0 := (HRW.out _ hbz1).cell (k := 0) rfl
    go_wp2_with fail
    refine (valued_any 4 (by decide) _).mono ?_
    rintro e wv ⟨rfl, rfl⟩
    go_wp2_with fail
    go_ret
    have hfin := HO1y.out
    have hkl : KL = L3 := by rw [HKL.out]; simp only [← HL3.out, ← HL2.out, ← HL1.out, List.append_assoc]
    have hlk : L3.length = (((1 + np) + ne0) + ne1) := by have := hfin.1; rw [Bs_length] at this; omega
    refine ⟨_, rfl, ?_, HBW.out _ hbz1⟩
    rw [hkl, hlk]
    exact own_base hfin (by have := HS0.out; omega)

theorem obytes_ref (k : Int) (p : Option Addr) (n c : Nat) (l : List Stp) (id af : Int) (vk vn : Int) (vs : ByteArray) (va : Option Addr) (vla vca : Nat) (vb : Option Addr) (vlb vcb : Nat) (vc : Option Addr) (vlc vcc : Nat) (v : Vt) (w : World) (hi0 : 0 ≤ id) (hi1 : id < 18446744073709551616) (hf0 : 0 ≤ af) (hf1 : af < 18446744073709551616) (hn : n ≤ 9223372036854775807) (hS : Sts w p n l) (hok : ∀ x ∈ l, StOk x) (hr : rightO k l id af v = true) (hV : VAt w v (vC vk vn vs va vla vca vb vlb vcb vc vlc vcc)) :
    Calls Tryz.prog 9 #[.agg (oC k p n c id af vk vn vs va vla vca vb vlb vcb vc vlc vcc).toArray] w fun e w' => ∃ x, e = .returned x ∧ w'.ownsRow w.heap.size 5 1 x (oBytes k l id af v).length (Bs (oBytes k l id af v)) ∧ Below w.heap.size w w' := by
  obtain ⟨i, rfl⟩ := Int.eq_ofNat_of_zero_le hi0
  obtain ⟨f, rfl⟩ := Int.eq_ofNat_of_zero_le hf0
  obtain ⟨hp, hc⟩ := rightO_cases hr
  have h8 := (right_of hp).1
  have hpl : (pBytes l).length ≤ 300 := by unfold pBytes; have := pB_len hp hok l.length (Nat.le_refl _); omega
  have hP : ∀ wx, Below w.heap.size w wx → _ := fun wx hx => pbytes_ref p n c l wx (hS.below hx) hok hp
  have hB : v.rightAt 1 = true → v.bytes.length ≤ 400000000 := fun h => Nat.le_trans (Vt.bytes_len v 1 h hV.inn) (vbnd_all (by decide))
  have hVB : v.rightAt 1 = true → ∀ wx, Below w.heap.size w wx → _ := fun h wx hx => vbytes_ref v (vC vk vn vs va vla vca vb vlb vcb vc vlc vcc) 1 wx (hV.later hx) h
  rcases hc with ⟨rfl, h1, h2, hv⟩ | ⟨rfl, h1, h2, hv⟩ | ⟨rfl, h1, h2, hv⟩ | ⟨rfl, h1, h2, hv⟩
  · obtain rfl : i = 0 := by omega
    obtain rfl : f = 0 := by omega
    exact obytes_1 p n c vk vn vs va vla vca vb vlb vcb vc vlc vcc (pBytes l) hpl w hP v.bytes (hB hv) (hVB hv) _ (by simp [oBytes, oTail])
  · exact obytes_2 p n c i f (by omega) (by omega) vk vn vs va vla vca vb vlb vcb vc vlc vcc (pBytes l) hpl w hP v.bytes (hB hv) (hVB hv) _ (by simp [oBytes, oTail])
  · obtain rfl : f = 0 := by omega
    exact obytes_3 p n c i (by omega) vk vn vs va vla vca vb vlb vcb vc vlc vcc (pBytes l) hpl w hP _ (by simp [oBytes, oTail])
  · exact obytes_4 p n c i f (by omega) (by omega) vk vn vs va vla vca vb vlb vcb vc vlc vcc (pBytes l) hpl w hP _ (by simp [oBytes, oTail])
end

end Go.Proofs.YtmiadkhfjkaidaaGreatDoor
