import Derived.Test.YtnpjecdodhkplaaGreatDoorSV
import Derived.Test.YtnpjecdodhkplaaGreatDoorTF
namespace Go.Proofs.YtnpjecdodhkplaaGreatDoor
set_option maxRecDepth 100000
set_option linter.unusedSimpArgs false
set_option linter.unusedVariables false
open Go.RowKit
open List renaming setIfInBounds_toArray → yA, set_cons_zero → yB, set_cons_succ → yC
open Lib renaming hid → yH
theorem wp_allocK {P : Program} {o : Oper} {a : Act} {w : World} {K : Act → World → Prop} {Q : Exit → Act → World → Prop} (T : TypeId) (z : List Value) (ho : o.op = .alloc T)
  (hrun : ∀ w : World, (Instr.alloc T true (.tuple #[])).run P w = .ok (.pointer (some ⟨w.heap.size, 0, none⟩)) (w.alloc (.cells z.toArray T)))
  (h : K (a.put o.dst (.pointer (some ⟨w.heap.size, 0, none⟩))) (w.alloc (.cells z.toArray T))) : o.wp P a w K Q := by
 have he : (execOp a.eval o).run P w = .ok (.value (.pointer (some ⟨w.heap.size, 0, none⟩))) (w.alloc (.cells z.toArray T)) := by
  unfold execOp
  simp only [ho, Sem.run_bind, Sem.run_pure, hrun, Result.andThen_ok]
 unfold Oper.wp
 rw [he]
 exact h
theorem region_cut {P : Program} {ops : Array Oper} {id : Nat} {Q : Exit → Act → World → Prop} {a : Act} {W : World} (Post : Act → World → Prop)
  (h : (Code.region id ops true).wp P (fun e a' w' => e = .normal ∧ Post a' w') a W) (hend : ∀ a' w', Post a' w' → Q .normal a' w') : (Code.region id ops true).wp P Q a W :=
 Code.wp_mono (fun e a w hp => by obtain ⟨rfl, hp⟩ := hp; exact hend a w hp) h
theorem sum_ref (xs : List Nat) {a : Option Addr} {n cap : Nat} (w : World) (hx : ∀ x ∈ xs, x < 256) (hr : Rd w (fun _ => True) a n (N8 xs)) (hn : n < 1000000) :
  Calls Tryz.prog 50 #[.slice a n cap] w fun e w' => e = .returned (.agg (By (shN xs) 64).toArray) ∧ Below w.heap.size w w' := by
 have h := doc64 xs a n cap _ w hx hr (by omega)
 rw [dig_By] at h
 exact h
theorem hash_ref (xs : List Nat) {a : Option Addr} {n cap : Nat} (w : World) (hx : ∀ x ∈ xs, x < 256) (hr : Rd w (fun _ => True) a n (N8 xs)) (hn : n < 1000000) :
  Calls Tryz.prog 46 #[.slice a n cap] w fun e w' => e = .returned (.agg (By (hN xs) 32).toArray) ∧ Below w.heap.size w w' := by
 have hW := Below.alloc1 w (.cells (By 0 32).toArray 22)
 have hz := Row.new w (By 0 32) 22
 have hs := sum_ref xs (cap := cap) _ hx (hr.belowAll hW) hn
 have hd := fun w => reduce_doc (shN xs) (dgN_lt _) w
 have e0 : shN xs % qq = hN xs := rfl
 rw [e0] at hd
 clear e0
 generalize shN xs = S at *
 generalize hN xs = V at *
 have HS := yH hs
 have HD := yH hd
 have HZ := yH hz
 have HW := yH hW
 clear hW hz hs hd hr hx
 go_enter Tryz.func46, Tryz.ntmps46
 go_wp2_with fail
 rw [z32r]
 refine HS.out.mono ?_
 rintro e w1 ⟨rfl, hb⟩
 have HZ1 := yH (HZ.out.belowAll hb)
 have HW1 := yH (HW.out.trans (hb.mono HW.out.size))
 clear hb
 go_wp2_with fail
 refine (HD.out _).mono ?_
 rintro e w2 ⟨rfl, hb⟩
 have HZ2 := yH (HZ1.out.belowAll hb)
 have HW2 := yH (HW1.out.trans (hb.mono HW1.out.size))
 clear hb
 go_wp2_with (refine wpList_store_row rfl 22 (.tmp 2) (.tmp 5) rfl w.heap.size _ rfl rfl 22 _ HZ2.out (by_info _) (By_sz _ _) (By_one32 _) ?_)
 have HR := yH (HZ2.out.setRow (By V 32))
 go_wp2_with fail
 refine bodyPost_ret (results_cell_row (by rfl) _ _ w.heap.size _ _ _ _ (by rfl) HR.out Tryz.underlying22 rfl (by_info _)) rfl ?_
 exact ⟨rfl, below_setRow HW2.out (Nat.le_refl _) _⟩
def vfR (K S k : Nat) : Nat := ptR (radP (rmuP baR S) (rmuP (rngP (decR K)) k) dL)
theorem rng_ok {p : Rp} (h : p.ok) : (rngP p).ok := ⟨negL_ok _, h.y, h.z⟩
theorem rmu_ok {p : Rp} (h : p.ok) (e : Nat) : (rmuP p e).ok := rmO_ok e h 256
theorem vfR_is {K S k : Nat} (hok : decOk K = true) (hS : S < qq) (hk : k < 256 ^ 32) : ptN (boP (ngP (decPt K)) k S) = vfR K S k := by
 have hs2 : S < 2 ^ 256 := Nat.lt_trans hS (by decide)
 have hk2 : k < 2 ^ 256 := by rw [← q256]; exact hk
 have hb := is_bo (ngP_ok (decPt_ok K)) hk2 hs2 (is_ng (decPt_ok K) (is_dec hok))
 have i1 := ir_mu (rng_ok (decR_ok K)) hk2 (ir_ng (decR_ok K) (decR_ir hok))
 have i2 := ir_mu baR_ok hs2 baR_ir
 have i3 := ir_ad (rmu_ok baR_ok S) (rmu_ok (rng_ok (decR_ok K)) k) i2 i1
 rw [is_told hb, vfR, ir_told i3, ad_comm]
theorem N8_nb (N : Nat) : By N 32 = N8 (nb N 32) := By_nb N 32
theorem N8_ones (l : List Nat) : ∀ u ∈ N8 l, u.oneCell' = true := by
 intro u hu
 obtain ⟨x, _, rfl⟩ := List.mem_map.1 hu
 rfl
theorem nb3_lt (F K : Nat) {l : List Nat} (hx : ∀ x ∈ l, x < 256) : ∀ x ∈ nb F 32 ++ (nb K 32 ++ l), x < 256 := by
 intro x h
 rcases List.mem_append.1 h with h | h
 ·exact nb_lt F 32 x h
 rcases List.mem_append.1 h with h | h
 ·exact nb_lt K 32 x h
 ·exact hx x h
theorem wp_none {o : Oper} {a : Act} {w : World} {K : Act → World → Prop} {Q : Exit → Act → World → Prop} (ho : o.op = .buildSlice 24 0 #[])
  (h : K (a.put o.dst (.slice (some ⟨w.heap.size, 0, none⟩) 0 0)) (w.alloc (.cells #[] 5))) : o.wp Tryz.prog a w K Q := by
 unfold Oper.wp execOp
 simp only [ho]
 go_simp
 exact h
theorem wp_store_byte {o : Oper} {a : Act} {w : World} {K : Act → World → Prop} {Q : Exit → Act → World → Prop} (x y : Operand) (ho : o.op = .store 5 x y) (p : Addr) (u : Value) (n : Int)
  (hx : a.eval x = .pointer (some p)) (hy : a.eval y = .int .u8 n) (hc : w.cell? p = some u) (hf : w.frozen? p = false)
  (h : K (a.put o.dst undef) (w.setCell p (.int .u8 n))) : o.wp Tryz.prog a w K Q := by
 unfold Oper.wp execOp
 simp only [ho, hx, hy]
 go_simp
 exact h
theorem own_ne {w : World} {B n g : Nat} {v : Value} {L l : List Value} (ho : w.ownsRow B 5 1 v n L) (hc : Row w g 22 l) : some g ≠ v.ownBlock := by
 rcases ho.2 with ⟨rfl, _⟩ | ⟨q, cap, cur, rfl, _, hq, _⟩
 ·intro e; cases e
 ·intro e
  obtain rfl : g = q := Option.some.inj e
  unfold Row at hc
  rw [hc] at hq
  injection hq with hq
  injection hq with _ hq
  exact absurd hq (by decide)
theorem ix64 (g m : Nat) (h : m < 64) (w : World) : (Instr.indexAt 30 (.pointer (some ⟨g, 0, none⟩)) (.int .i64 (m : Int))).run Tryz.prog w = .ok (.pointer (some ⟨g, m, none⟩)) w := by
 have h1 : (0 : Int) ≤ (m : Int) := by omega
 have h2 : (m : Int) < 64 := by omega
 have e : (⟨g, 0, none⟩ : Addr).add m = ⟨g, m, none⟩ := by rw [Addr.add_mid, Nat.zero_add]
 go_simp
 try rw [e]
theorem ix32 (g m : Nat) (h : m < 32) (w : World) : (Instr.indexAt 22 (.pointer (some ⟨g, 0, none⟩)) (.int .i64 (m : Int))).run Tryz.prog w = .ok (.pointer (some ⟨g, m, none⟩)) w := by
 have h2 := ix_by g 0 m h w
 rwa [Nat.zero_add] at h2
theorem intAd (x y z : Nat) (h : x + y = z) (hz : z < 1000000) (w : World) : (binOp .add 3 (.int .i64 (x : Int)) (.int .i64 (y : Int))).run Tryz.prog w = .ok (.int .i64 (z : Int)) w := by
 have e1 : (x : Int) + (y : Int) = (z : Int) := by omega
 have e : IntKind.i64.wrap (z : Int) = (z : Int) := IntWalk.i64_in _ (by omega)
 go_simp
 try rw [e1]
 try rw [e]
theorem intAdg (x y : Operand) (u v : Value) (w : World) : (eqGuard .add 3 x y u v).run Tryz.prog w = .ok () w := by rfl
theorem tg {P : Program} {ops : Array Oper} {Q : Exit → Act → World → Prop} {S : World → Prop} (i d : Nat) {oi : Oper} {v : Value} {fuel : Nat} {listed : Array Bool} {a : Act} {w : World} (hi : ops[i]? = some oi) (hd : oi.dst = some d)
  (hc : (Region.noSelect ops && (Region.free .any ops listed i && (Region.ready .any ops listed).contains i)) = true)
  (hQ : ∀ c a w, Q (.panic c) (a.put oi.dst v) w → Q (.panic c) a w) (hg : Region.wanted oi (yielded ops a.tmps) = true) (hS : S w) (hy : ∀ w, S w → (execOp a.eval oi).run P w = .ok (.value v) w)
  (h : wpAnyH P .any ops Q S fuel (listed.setIfInBounds i true) (a.put (some d) v) w) : wpAnyH P .any ops Q S (fuel + 1) listed a w :=
 tk i d hi hd hc hQ hg hy hS h
theorem ex_move {P : Program} {o : Oper} {a : Act} {w : World} {x : Operand} {v : Value} (ho : o.op = .move x) (hx : a.eval x = v) : (execOp a.eval o).run P w = .ok (.value v) w := by
 unfold execOp
 simp only [ho, hx, Sem.run_pure]
theorem ex_ix {P : Program} {o : Oper} {a : Act} {w : World} (T : TypeId) (x y : Operand) (ho : o.op = .indexAddr T x y) (u v r : Value) (hx : a.eval x = u) (hy : a.eval y = v) (hi : (Instr.indexAt T u v).run P w = .ok r w) : (execOp a.eval o).run P w = .ok (.value r) w := by
 unfold execOp
 simp only [ho, hx, hy, Sem.run_bind, Sem.run_pure, hi, Result.andThen_ok]
theorem ex_ld {P : Program} {o : Oper} {a : Act} {w : World} (T : TypeId) (x : Operand) (ho : o.op = .load T x) (u r : Value) (hx : a.eval x = u) (hi : (Instr.loadAt T u).run P w = .ok r w) : (execOp a.eval o).run P w = .ok (.value r) w := by
 unfold execOp
 simp only [ho, hx, Sem.run_bind, Sem.run_pure, hi, Result.andThen_ok]
theorem ex_bin {P : Program} {o : Oper} {a : Act} {w : World} (op : BinOp) (T T2 : TypeId) (x y : Operand) (ho : o.op = .binOp op T x y T2) (u v r : Value) (hx : a.eval x = u) (hy : a.eval y = v)
  (hg : (eqGuard op T x y u v).run P w = .ok () w) (hi : (binOp op T u v).run P w = .ok r w) : (execOp a.eval o).run P w = .ok (.value r) w := by
 unfold execOp
 simp only [ho, hx, hy, Sem.run_bind, Sem.run_pure, hg, hi, Result.andThen_ok]
set_option maxHeartbeats 12800000 in
theorem vf_ref (Y F S : Nat) (hF : F < 256 ^ 32) (hS : S < 256 ^ 32) (l : List Nat) {A : Option Addr} {m c : Nat} (w : World) (hx : ∀ x ∈ l, x < 256) (r : Rd w (fun _ => True) A m (N8 l)) (hm : m ≤ 1000) :
  Calls Tryz.prog 14 #[.agg (By Y 32).toArray, .agg (SL F S).toArray, .slice A m c] w fun e w' => e = .returned (.bool (vfB Y F S l)) ∧ Below w.heap.size w w' := by
 have hl : l.length = m := by have := r.1; rwa [N8_len] at this
 have HL := yH hl
 have HR := yH r
 have HX := yH hx
 have HM := yH hm
 have HF := yH hF
 have HS := yH hS
 clear hl r hx hm hF hS
 go_enter Tryz.func14, Tryz.ntmps14
 go_wp2_with fail
 go_loopw [9] (fun i wr => ∃ k : Nat, k ≤ 32 ∧ i = .int .i64 (k : Int) ∧ Row wr (w.heap.size + 1 + 1) 22 (Tab .u8 (byt F) 32 k) ∧ Row wr (w.heap.size + 1 + 1 + 1) 22 (Tab .u8 (byt S) 32 k) ∧ Row wr w.heap.size 22 (By Y 32) ∧ Row wr (w.heap.size + 1) 30 (SL F S) ∧ Below w.heap.size w wr) (fun i _ => 32 - (intOf i).toNat)
 case atStart =>
  refine ⟨0, Nat.zero_le _, rfl, ?_, ?_, ((Row.new w (By Y 32) 22).alloc _).alloc _ |>.alloc _, (Row.new1 w _ (SL F S) 30).alloc _ |>.alloc _, (Below.alloc3 w _ _ _).alloc (by simp; omega) _⟩
  ·rw [Tab_zero]
   exact (Row.new2 w _ _ (List.replicate 32 (.int .u8 0)) _).alloc _
  ·rw [Tab_zero]
   exact Row.new3 w _ _ _ (List.replicate 32 (.int .u8 0)) _
 case round =>
  obtain ⟨k, hkn, rfl, h7, h8, hky, hsg, hbe⟩ := hrel
  by_cases hlt : k < 32
  ·have c1 : ∀ w', Row w' (w.heap.size + 1) 30 (SL F S) → w'.cell? ⟨w.heap.size + 1, k, none⟩ = some (.int .u8 ((byt F k : Nat) : Int)) := fun w' h => by
    have := h.cell (SL_fst F S k _ (By_get F 32 hlt))
    rwa [Nat.zero_add] at this
   have c2 : ∀ w', Row w' (w.heap.size + 1) 30 (SL F S) → w'.cell? ⟨w.heap.size + 1, 32 + k, none⟩ = some (.int .u8 ((byt S k : Nat) : Int)) := fun w' h => h.cell (SL_snd F S k _ (By_get S 32 hlt))
   have s7 := h7.set k (.int .u8 ((byt F k : Nat) : Int))
   have s8 := h8.set k (.int .u8 ((byt S k : Nat) : Int))
   have n7 : k < (Tab .u8 (byt F) 32 k).length := by rw [Tab_length]; exact hlt
   have o7 := Tab_get .u8 (byt F) 32 k hlt
   have o8 := Tab_get .u8 (byt S) 32 k hlt
   have t7 := Tab_set .u8 (byt F) 32 hlt
   have t8 := Tab_set .u8 (byt S) 32 hlt
   clear s7 s8 n7
   generalize byt F k = x at *
   generalize byt S k = y at *
   have C1 := yH c1
   have C2 := yH c2
   have H7 := yH h7
   have H8 := yH h8
   have HK := yH hky
   have HG := yH hsg
   have HB := yH hbe
   have T7 := yH t7
   have T8 := yH t8
   have O7 := yH o7
   have O8 := yH o8
   have hk1 : (k : Int) < 32 := by omega
   clear c1 c2 h7 h8 hky hsg hbe t7 t8 o7 o8
   go_upto_region 5 with fail
   refine wp_region_any (by kernel_rfl) ?_
   change wpAny _ _ _ _ _ _ _ (World.drew _)
   refine wpAny_of_held (S := (fun w' : World => Row w' (w.heap.size + 1) 30 (SL F S))) _ _ _ _ ?_
   have hHeld := (HG.out.drewN 1)
   refine tg 0 17 rfl rfl (by kernel_rfl) (fun _ _ _ h => h) (by rfl) hHeld (fun w' hSw => ex_move (x := .tmp 9) rfl rfl) ?_
   simp only [Act.put, yA, yB, yC]
   refine tg 1 18 rfl rfl (by kernel_rfl) (fun _ _ _ h => h) (by rfl) hHeld (fun w' hSw => ex_move (x := .tmp 9) rfl rfl) ?_
   simp only [Act.put, yA, yB, yC]
   refine tg 2 19 rfl rfl (by kernel_rfl) (fun _ _ _ h => h) (by rfl) hHeld (fun w' hSw => ex_move (x := .tmp 9) rfl rfl) ?_
   simp only [Act.put, yA, yB, yC]
   refine tg 3 20 rfl rfl (by kernel_rfl) (fun _ _ _ h => h) (by rfl) hHeld (fun w' hSw => ex_ix 30 (.tmp 4) (.tmp 19) rfl _ _ _ rfl rfl (ix64 _ k (by omega) w')) ?_
   simp only [Act.put, yA, yB, yC]
   refine tg 4 21 rfl rfl (by kernel_rfl) (fun _ _ _ h => h) (by rfl) hHeld (fun w' hSw => ex_ld 5 (.tmp 20) rfl _ _ rfl (ld_by (C1.out _ hSw))) ?_
   simp only [Act.put, yA, yB, yC]
   refine tg 5 22 rfl rfl (by kernel_rfl) (fun _ _ _ h => h) (by rfl) hHeld (fun w' hSw => ex_move (x := .tmp 9) rfl rfl) ?_
   simp only [Act.put, yA, yB, yC]
   refine tg 6 23 rfl rfl (by kernel_rfl) (fun _ _ _ h => h) (by rfl) hHeld (fun w' hSw => ex_bin .add 3 3 (.const (.int .i64 32)) (.tmp 22) rfl (.int .i64 ((32 : Nat) : Int)) (.int .i64 (k : Int)) _ rfl rfl (intAdg _ _ _ _ w') (intAd 32 k _ rfl (by omega) w')) ?_
   simp only [Act.put, yA, yB, yC]
   refine tg 7 24 rfl rfl (by kernel_rfl) (fun _ _ _ h => h) (by rfl) hHeld (fun w' hSw => ex_ix 30 (.tmp 4) (.tmp 23) rfl _ _ _ rfl rfl (ix64 _ (32 + k) (by omega) w')) ?_
   simp only [Act.put, yA, yB, yC]
   refine tg 8 25 rfl rfl (by kernel_rfl) (fun _ _ _ h => h) (by rfl) hHeld (fun w' hSw => ex_ld 5 (.tmp 24) rfl _ _ rfl (ld_by (C2.out _ hSw))) ?_
   simp only [Act.put, yA, yB, yC]
   refine tg 9 26 rfl rfl (by kernel_rfl) (fun _ _ _ h => h) (by rfl) hHeld (fun w' hSw => ex_ix 22 (.tmp 7) (.tmp 17) rfl _ _ _ rfl rfl (ix32 _ k hlt w')) ?_
   simp only [Act.put, yA, yB, yC]
   refine wpAnyH_ready (rs := [10]) (by kernel_rfl) (by simp) ?_
   refine AllReadyH.cons rfl (fun K hK => ?_) AllReadyH.nil
   rw [if_pos (by kernel_rfl)]
   have h7 : Row wr.drew (w.heap.size + 1 + 1) 22 (Tab .u8 (byt F) 32 k) := H7.out.drewN 1
   refine wp_store_byte (.tmp 26) (.tmp 21) rfl ⟨w.heap.size + 1 + 1, k, none⟩ _ (x : Int) rfl rfl (h7.cell O7.out) (h7.free k) ?_
   have n7 := h7.set k (.int .u8 (x : Int))
   rw [T7.out] at n7
   have h8 : Row wr.drew (w.heap.size + 1 + 1 + 1) 22 (Tab .u8 (byt S) 32 k) := H8.out.drewN 1
   have hk : Row wr.drew w.heap.size 22 (By Y 32) := HK.out.drewN 1
   have hg : Row wr.drew (w.heap.size + 1) 30 (SL F S) := HG.out.drewN 1
   have n8 := h8.setCell (p := ⟨w.heap.size + 1 + 1, k, none⟩) (by show _ ≠ w.heap.size + 1 + 1; omega) (.int .u8 (x : Int))
   have nk := hk.setCell (p := ⟨w.heap.size + 1 + 1, k, none⟩) (by show _ ≠ w.heap.size + 1 + 1; omega) (.int .u8 (x : Int))
   have ng := hg.setCell (p := ⟨w.heap.size + 1 + 1, k, none⟩) (by show _ ≠ w.heap.size + 1 + 1; omega) (.int .u8 (x : Int))
   have nb := HB.out.drew.setCell (p := ⟨w.heap.size + 1 + 1, k, none⟩) (by show _ ≤ w.heap.size + 1 + 1; omega) (.int .u8 (x : Int))
   refine hK.out _ _ ng (fun hHeld => ?_)
   clear hK K
   generalize (World.setCell _ ⟨w.heap.size + 1 + 1, k, none⟩ _) = W1 at *
   refine tg 11 27 rfl rfl (by kernel_rfl) (fun _ _ _ h => h) (by rfl) hHeld (fun w' hSw => ex_ix 22 (.tmp 8) (.tmp 18) rfl _ _ _ rfl rfl (ix32 _ k hlt w')) ?_
   simp only [Act.put, yA, yB, yC]
   refine wpAnyH_ready (rs := [12]) (by kernel_rfl) (by simp) ?_
   refine AllReadyH.cons rfl (fun K hK => ?_) AllReadyH.nil
   rw [if_pos (by kernel_rfl)]
   refine wp_store_byte (.tmp 27) (.tmp 25) rfl ⟨w.heap.size + 1 + 1 + 1, k, none⟩ _ (y : Int) rfl rfl (n8.cell O8.out) (n8.free k) ?_
   have m8 := n8.set k (.int .u8 (y : Int))
   rw [T8.out] at m8
   have m7 := n7.setCell (p := ⟨w.heap.size + 1 + 1 + 1, k, none⟩) (by show _ ≠ w.heap.size + 1 + 1 + 1; omega) (.int .u8 (y : Int))
   have mk := nk.setCell (p := ⟨w.heap.size + 1 + 1 + 1, k, none⟩) (by show _ ≠ w.heap.size + 1 + 1 + 1; omega) (.int .u8 (y : Int))
   have mg := ng.setCell (p := ⟨w.heap.size + 1 + 1 + 1, k, none⟩) (by show _ ≠ w.heap.size + 1 + 1 + 1; omega) (.int .u8 (y : Int))
   have mb := nb.setCell (p := ⟨w.heap.size + 1 + 1 + 1, k, none⟩) (by show _ ≤ w.heap.size + 1 + 1 + 1; omega) (.int .u8 (y : Int))
   refine hK.out _ _ mg (fun hHeld => ?_)
   clear hK K
   generalize (World.setCell _ ⟨w.heap.size + 1 + 1 + 1, k, none⟩ _) = W2 at *
   refine wpAnyH_done (by kernel_rfl) ?_ _
   have M7 := yH m7
   have M8 := yH m8
   have MK := yH mk
   have MG := yH mg
   have MB := yH mb
   clear m7 m8 mk mg mb n7 n8 nk ng nb h7 h8 hk hg hHeld
   go_wp2_with fail
   go_roundw
   case rel => exact ⟨k + 1, by omega, by go_num, M7.out, M8.out, MK.out, MG.out, MB.out⟩
   case measure => simp [intOf] <;> omega
  ·obtain rfl : k = 32 := by omega
   rw [Tab_done] at h7 h8
   have h7 : Row wr (w.heap.size + 1 + 1) 22 (By F 32) := h7
   have h8 : Row wr (w.heap.size + 1 + 1 + 1) 22 (By S 32) := h8
   have hr := HR.out.belowAll hbe
   generalize w.heap.size + 1 + 1 + 1 = g8 at *
   generalize w.heap.size + 1 + 1 = g7 at *
   have HK := yH hky
   have HR1 := yH hr
   have HB := yH hbe
   have H7 := yH h7
   have H8 := yH h8
   clear hky hr hbe h7 h8 hsg HR
   by_cases hok : decOk Y = true
   ·have HD := yH (fun w => dr_x hok w)
    go_wp2_with (refine wpList_load_row rfl 22 (.tmp 3) rfl w.heap.size rfl 22 _ (0, 0) _ HK.out Tryz.underlying22 rfl (by_info _) ?_)
    refine (HD.out _).mono ?_
    rintro e w1 ⟨rfl, hb⟩
    have hz := rl_zero_row w1
    have hb2 := below_setRow (g := w1.heap.size) (hb.alloc hb.size (.cells #[.int .u32 0, .int .u32 0, .int .u32 0, .int .u32 0, .int .u32 0, .int .u32 0, .int .u32 0, .int .u32 0, .int .u32 0, .int .u32 0, .int .u32 0, .int .u32 0, .int .u32 0, .int .u32 0, .int .u32 0, .int .u32 0, .int .u32 0, .int .u32 0, .int .u32 0, .int .u32 0, .int .u32 0, .int .u32 0, .int .u32 0, .int .u32 0] 39)) hb.size (RL (decR Y)).toArray
    have HZ := yH hz
    have HP := yH (hz.setRow (RL (decR Y)))
    have HK2 := yH (HK.out.belowAll hb2)
    have HR2 := yH (HR1.out.belowAll hb2)
    have HW2 := yH (HB.out.trans (hb2.mono HB.out.size))
    have H72 := yH (H7.out.belowAll hb2)
    have H82 := yH (H8.out.belowAll hb2)
    clear hb hz hb2 HK HR1 HB H7 H8 HD
    go_wp2_with (first
     | (refine wpList_store_row rfl 39 (.tmp 10) (.tmp 31) rfl w1.heap.size _ rfl rfl 39 _ HZ.out (rl_info _) (RL_sz _ _) (RL_one _) ?_)
     | (refine wpList_load_guarded (by kernel_rfl) 22 (.tmp 8) rfl g8 rfl 22 _ H82.out Tryz.underlying22 rfl (by_info _) ?_))
    refine (below_doc S HS.out _).mono ?_
    rintro e W ⟨rfl, hb⟩
    have HK3 := yH (HK2.out.belowAll hb)
    have HR3 := yH (HR2.out.belowAll hb)
    have HW3 := yH (HW2.out.trans (hb.mono HW2.out.size))
    have H73 := yH (H72.out.belowAll hb)
    have H83 := yH (H82.out.belowAll hb)
    have HP3 := yH (HP.out.belowAll hb)
    clear hb HK2 HR2 HW2 H72 H82 HP HZ
    generalize w1.heap.size = g9 at *
    by_cases hs : S < qq
    ·rw [decide_eq_true hs]
     obtain ⟨xs, hxs⟩ : ∃ xs, xs = nb F 32 ++ (nb Y 32 ++ l) := ⟨_, rfl⟩
     have hlt : ∀ x ∈ xs, x < 256 := by rw [hxs]; exact nb3_lt F Y HX.out
     have hxl : ([] ++ N8 (nb F 32)) ++ N8 (nb Y 32) ++ N8 l = N8 xs := by rw [hxs]; simp [N8]
     have hkk := hN_256 xs
     have hh := fun (a : Option Addr) (n cap : Nat) w (h : Rd w (fun _ => True) a n (N8 xs)) hn => hash_ref xs (cap := cap) w hlt h hn
     have hkq : hN xs = hN (nb F 32 ++ (nb Y 32 ++ l)) := by rw [hxs]
     generalize hN xs = kk at *
     have HXL := yH hxl
     have HH := yH hh
     have HKK := yH hkk
     have HKQ := yH hkq
     have hf7 := H73.out
     have hfk := HK3.out
     rw [N8_nb] at hf7 hfk
     have SF := yH (Rd.row hf7 32 (by simp [N8_len, nb_len]))
     have SK := yH (Rd.row hfk 32 (by simp [N8_len, nb_len]))
     have hi : Tryz.prog.info? 5 = some (Tryz.prog.info? 5).get! := by kernel_rfl
     have hz : (Tryz.prog.info? 5).get!.zero = some (.int .u8 0) := by kernel_rfl
     have HI := yH hi
     have HZ := yH hz
     clear hlt hxl hkk hh hkq hf7 hfk hi hz hxs
     go_upto_region 9 with fail
     refine region_cut (fun a' w' => ∃ gC : Nat, ∃ v40 v42 v44 v46 : Value, a' = ⟨#[.agg (By Y 32).toArray, .agg (SL F S).toArray, .slice A m c, .pointer (some ⟨w.heap.size, 0, none⟩), .pointer (some ⟨w.heap.size + 1, 0, none⟩), undef, .bool false, .pointer (some ⟨g7, 0, none⟩), .pointer (some ⟨g8, 0, none⟩), .int .i64 32, .pointer (some ⟨g9, 0, none⟩), .bool true, .pointer (some ⟨gC, 0, none⟩), .int .i64 32, .bool false, u15, u16, u17, u18, u19, u20, u21, u22, u23, u24, u25, u26, u27, .tuple #[.agg (RL (decR Y)).toArray, .bool true], .agg (By Y 32).toArray, .tuple #[.agg (RL (decR Y)).toArray, .bool true], .agg (RL (decR Y)).toArray, .bool true, .bool true, .bool false, .bool false, .agg (By S 32).toArray, .bool true, .bool false, .bool false, v40, .slice (some ⟨g7, 0, none⟩) 32 32, v42, .slice (some ⟨w.heap.size, 0, none⟩) 32 32, v44, .slice A m c, v46, .agg (By kk 32).toArray, undef, undef, undef, undef, undef, undef, undef, undef, undef, undef, undef, undef], []⟩ ∧ Below W.heap.size W w' ∧ Row w' gC 22 (By kk 32)) ?_ ?_
     ·refine wp_region_any (by kernel_rfl) ?_
      change wpAny _ _ _ _ _ _ _ (World.drew _)
      refine wpAny_of_held (S := (fun w' : World => Below W.heap.size W w')) _ _ _ _ ?_
      have hHeld := ((Below.refl W.heap.size W).drew)
      have hH : Below W.heap.size W W.drew := (Below.refl W.heap.size W).drew
      refine wpAnyH_take (i := 1) (v := ?_) rfl (by kernel_rfl) (by kernel_rfl) (by kernel_rfl) (fun _ _ _ h => nomatch h.1) (Or.inl ⟨by rfl, ?_⟩) hHeld ?_
      rotate_left
      ·(intro w' hSw; go_simp; try (with_reducible rfl))
      change wpAnyH _ _ _ _ _ _ _ (Act.put _ (some 41) _) _
      simp only [Act.put, yA, yB, yC]
      refine wpAnyH_take (i := 3) (v := ?_) rfl (by kernel_rfl) (by kernel_rfl) (by kernel_rfl) (fun _ _ _ h => nomatch h.1) (Or.inl ⟨by rfl, ?_⟩) hHeld ?_
      rotate_left
      ·(intro w' hSw; go_simp; try (with_reducible rfl))
      change wpAnyH _ _ _ _ _ _ _ (Act.put _ (some 43) _) _
      simp only [Act.put, yA, yB, yC]
      refine wpAnyH_take (i := 5) (v := ?_) rfl (by kernel_rfl) (by kernel_rfl) (by kernel_rfl) (fun _ _ _ h => nomatch h.1) (Or.inl ⟨by rfl, ?_⟩) hHeld ?_
      rotate_left
      ·(intro w' hSw; go_simp; try (with_reducible rfl))
      change wpAnyH _ _ _ _ _ _ _ (Act.put _ (some 45) _) _
      simp only [Act.put, yA, yB, yC]
      clear hHeld
      generalize W.drew = w0 at *
      refine wpAnyH_ready (rs := [0, 8]) (by kernel_rfl) (by simp) ?_
      refine AllReadyH.cons rfl (fun K hK => ?_) (AllReadyH.cons rfl (fun K hK => ?_) AllReadyH.nil)
      rw [if_pos (by kernel_rfl)]
      refine wp_none rfl ?_
      have hb := Below.alloc1 w0 (.cells #[] 5)
      have hOn : (w0.alloc (.cells #[] 5)).ownsRow W.heap.size 5 1 (.slice (some ⟨w0.heap.size, 0, none⟩) 0 0) 0 [] := World.ownsRow_made w0 #[] 0 hH.size (by unfold maxLen; omega) rfl
      have hHn := hH.trans (hb.mono hH.size)
      refine hK.out _ _ hHn (fun _ => ?_)
      clear hK K hb
      generalize w0.alloc (.cells #[] 5) = n1 at hHn hOn ⊢
      generalize w0.heap.size = gO at hOn ⊢
      clear hH
      have hH := hHn
      have hO := hOn
      clear hHn hOn
      rotate_left
      rw [if_pos (by kernel_rfl)]
      refine wp_allocK 22 (By 0 32) rfl (fun w => by_alloc w) ?_
      have hb := Below.alloc1 w0 (.cells (By 0 32).toArray 22)
      have hCn := Row.new w0 (By 0 32) 22
      have geC := hH.size
      have hHn := hH.trans (hb.mono hH.size)
      refine hK.out _ _ hHn (fun _ => ?_)
      clear hK K hb
      generalize w0.alloc (.cells (By 0 32).toArray 22) = x0 at hHn hCn ⊢
      generalize w0.heap.size = gC at hCn geC ⊢
      clear hH
      have hH := hHn
      have hC := hCn
      clear hHn hCn
      iterate 1
       refine wpAnyH_ready (rs := [0]) (by kernel_rfl) (by simp) ?_
       refine AllReadyH.cons rfl (fun K hK => ?_) AllReadyH.nil
       rw [if_pos (by kernel_rfl)]
       refine wp_none rfl ?_
       have hb := Below.alloc1 x0 (.cells #[] 5)
       have hOn : (x0.alloc (.cells #[] 5)).ownsRow W.heap.size 5 1 (.slice (some ⟨x0.heap.size, 0, none⟩) 0 0) 0 [] := World.ownsRow_made x0 #[] 0 hH.size (by unfold maxLen; omega) rfl
       have hHn := hH.trans (hb.mono hH.size)
       have hCn := hC.belowAll hb
       refine hK.out _ _ hHn (fun _ => ?_)
       clear hK K hb
       generalize x0.alloc (.cells #[] 5) = x1 at hHn hOn hCn ⊢
       generalize x0.heap.size = gO at hOn ⊢
       clear hH hC
       have hH := hHn
       have hO := hOn
       have hC := hCn
       clear hHn hOn hCn
       rotate_left
      refine wpAnyH_ready (rs := [2, 8]) (by kernel_rfl) (by simp) ?_
      refine AllReadyH.cons rfl (fun K hK => ?_) (AllReadyH.cons rfl (fun K hK => ?_) AllReadyH.nil)
      rw [if_pos (by kernel_rfl)]
      refine wp_append_rd (.tmp 40) (.tmp 41) 24 rfl W.heap.size 5 _ _ 1 Tryz.underlying24 HI.out HZ.out (by kernel_rfl) (by kernel_rfl) (by rfl) _ _ _ rfl hO (fun _ => True) _ _ _ _ rfl (SF.out.belowAll hH) (N8_ones _) (by have := HM.out; unfold maxLen; omega) (by have := HM.out; omega) hH.size ?_
      intro v n2 hOn hgr _
      have hHn : Below W.heap.size W n2 := hH.grown hgr hH.size (fun q hq => (hO.lt q hq).1)
      obtain ⟨A1, c1, rfl⟩ := own_slice hOn
      refine hK.out _ _ hHn (fun _ => ?_)
      clear hK K hgr
      clear hH hO
      have hH := hHn
      have hO := hOn
      clear hHn hOn
      rotate_left
      rw [if_pos (by kernel_rfl)]
      refine wp_allocK 22 (By 0 32) rfl (fun w => by_alloc w) ?_
      have hb := Below.alloc1 n1 (.cells (By 0 32).toArray 22)
      have hCn := Row.new n1 (By 0 32) 22
      have geC := hH.size
      have hOn := hO.alloc (.cells (By 0 32).toArray 22)
      have hHn := hH.trans (hb.mono hH.size)
      refine hK.out _ _ hHn (fun _ => ?_)
      clear hK K hb
      generalize n1.alloc (.cells (By 0 32).toArray 22) = x1 at hHn hCn hOn ⊢
      generalize n1.heap.size = gC at hCn geC ⊢
      clear hH hO
      have hH := hHn
      have hO := hOn
      have hC := hCn
      clear hHn hOn hCn
      iterate 2
       refine wpAnyH_ready (rs := [2]) (by kernel_rfl) (by simp) ?_
       refine AllReadyH.cons rfl (fun K hK => ?_) AllReadyH.nil
       rw [if_pos (by kernel_rfl)]
       refine wp_append_rd (.tmp 40) (.tmp 41) 24 rfl W.heap.size 5 _ _ 1 Tryz.underlying24 HI.out HZ.out (by kernel_rfl) (by kernel_rfl) (by rfl) _ _ _ rfl hO (fun _ => True) _ _ _ _ rfl (SF.out.belowAll hH) (N8_ones _) (by have := HM.out; unfold maxLen; omega) (by have := HM.out; omega) hH.size ?_
       intro v x2 hOn hgr _
       have hHn : Below W.heap.size W x2 := hH.grown hgr hH.size (fun q hq => (hO.lt q hq).1)
       have hCn : Row x2 gC 22 (By 0 32) := (hgr.block gC hC.lt (own_ne hO hC)).trans hC
       obtain ⟨A1, c1, rfl⟩ := own_slice hOn
       refine hK.out _ _ hHn (fun _ => ?_)
       clear hK K hgr
       clear hH hO hC
       have hH := hHn
       have hO := hOn
       have hC := hCn
       clear hHn hOn hCn
       rotate_left
      refine wpAnyH_ready (rs := [4, 8]) (by kernel_rfl) (by simp) ?_
      refine AllReadyH.cons rfl (fun K hK => ?_) (AllReadyH.cons rfl (fun K hK => ?_) AllReadyH.nil)
      rw [if_pos (by kernel_rfl)]
      refine wp_append_rd (.tmp 42) (.tmp 43) 24 rfl W.heap.size 5 _ _ 1 Tryz.underlying24 HI.out HZ.out (by kernel_rfl) (by kernel_rfl) (by rfl) _ _ _ rfl hO (fun _ => True) _ _ _ _ rfl (SK.out.belowAll hH) (N8_ones _) (by have := HM.out; unfold maxLen; omega) (by have := HM.out; omega) hH.size ?_
      intro v n3 hOn hgr _
      have hHn : Below W.heap.size W n3 := hH.grown hgr hH.size (fun q hq => (hO.lt q hq).1)
      obtain ⟨A2, c2, rfl⟩ := own_slice hOn
      refine hK.out _ _ hHn (fun _ => ?_)
      clear hK K hgr
      clear hH hO
      have hH := hHn
      have hO := hOn
      clear hHn hOn
      rotate_left
      rw [if_pos (by kernel_rfl)]
      refine wp_allocK 22 (By 0 32) rfl (fun w => by_alloc w) ?_
      have hb := Below.alloc1 n2 (.cells (By 0 32).toArray 22)
      have hCn := Row.new n2 (By 0 32) 22
      have geC := hH.size
      have hOn := hO.alloc (.cells (By 0 32).toArray 22)
      have hHn := hH.trans (hb.mono hH.size)
      refine hK.out _ _ hHn (fun _ => ?_)
      clear hK K hb
      generalize n2.alloc (.cells (By 0 32).toArray 22) = x2 at hHn hCn hOn ⊢
      generalize n2.heap.size = gC at hCn geC ⊢
      clear hH hO
      have hH := hHn
      have hO := hOn
      have hC := hCn
      clear hHn hOn hCn
      iterate 3
       refine wpAnyH_ready (rs := [4]) (by kernel_rfl) (by simp) ?_
       refine AllReadyH.cons rfl (fun K hK => ?_) AllReadyH.nil
       rw [if_pos (by kernel_rfl)]
       refine wp_append_rd (.tmp 42) (.tmp 43) 24 rfl W.heap.size 5 _ _ 1 Tryz.underlying24 HI.out HZ.out (by kernel_rfl) (by kernel_rfl) (by rfl) _ _ _ rfl hO (fun _ => True) _ _ _ _ rfl (SK.out.belowAll hH) (N8_ones _) (by have := HM.out; unfold maxLen; omega) (by have := HM.out; omega) hH.size ?_
       intro v x3 hOn hgr _
       have hHn : Below W.heap.size W x3 := hH.grown hgr hH.size (fun q hq => (hO.lt q hq).1)
       have hCn : Row x3 gC 22 (By 0 32) := (hgr.block gC hC.lt (own_ne hO hC)).trans hC
       obtain ⟨A2, c2, rfl⟩ := own_slice hOn
       refine hK.out _ _ hHn (fun _ => ?_)
       clear hK K hgr
       clear hH hO hC
       have hH := hHn
       have hO := hOn
       have hC := hCn
       clear hHn hOn hCn
       rotate_left
      refine wpAnyH_ready (rs := [6, 8]) (by kernel_rfl) (by simp) ?_
      refine AllReadyH.cons rfl (fun K hK => ?_) (AllReadyH.cons rfl (fun K hK => ?_) AllReadyH.nil)
      rw [if_pos (by kernel_rfl)]
      refine wp_append_rd (.tmp 44) (.tmp 45) 24 rfl W.heap.size 5 _ _ 1 Tryz.underlying24 HI.out HZ.out (by kernel_rfl) (by kernel_rfl) (by rfl) _ _ _ rfl hO (fun _ => True) _ _ _ _ rfl (HR3.out.belowAll hH) (N8_ones _) (by have := HM.out; unfold maxLen; omega) (by have := HM.out; omega) hH.size ?_
      intro v n4 hOn hgr _
      have hHn : Below W.heap.size W n4 := hH.grown hgr hH.size (fun q hq => (hO.lt q hq).1)
      obtain ⟨A3, c3, rfl⟩ := own_slice hOn
      refine hK.out _ _ hHn (fun _ => ?_)
      clear hK K hgr
      clear hH hO
      have hH := hHn
      have hO := hOn
      clear hHn hOn
      rotate_left
      rw [if_pos (by kernel_rfl)]
      refine wp_allocK 22 (By 0 32) rfl (fun w => by_alloc w) ?_
      have hb := Below.alloc1 n3 (.cells (By 0 32).toArray 22)
      have hCn := Row.new n3 (By 0 32) 22
      have geC := hH.size
      have hOn := hO.alloc (.cells (By 0 32).toArray 22)
      have hHn := hH.trans (hb.mono hH.size)
      refine hK.out _ _ hHn (fun _ => ?_)
      clear hK K hb
      generalize n3.alloc (.cells (By 0 32).toArray 22) = x3 at hHn hCn hOn ⊢
      generalize n3.heap.size = gC at hCn geC ⊢
      clear hH hO
      have hH := hHn
      have hO := hOn
      have hC := hCn
      clear hHn hOn hCn
      iterate 4
       refine wpAnyH_ready (rs := [6]) (by kernel_rfl) (by simp) ?_
       refine AllReadyH.cons rfl (fun K hK => ?_) AllReadyH.nil
       rw [if_pos (by kernel_rfl)]
       refine wp_append_rd (.tmp 44) (.tmp 45) 24 rfl W.heap.size 5 _ _ 1 Tryz.underlying24 HI.out HZ.out (by kernel_rfl) (by kernel_rfl) (by rfl) _ _ _ rfl hO (fun _ => True) _ _ _ _ rfl (HR3.out.belowAll hH) (N8_ones _) (by have := HM.out; unfold maxLen; omega) (by have := HM.out; omega) hH.size ?_
       intro v x4 hOn hgr _
       have hHn : Below W.heap.size W x4 := hH.grown hgr hH.size (fun q hq => (hO.lt q hq).1)
       have hCn : Row x4 gC 22 (By 0 32) := (hgr.block gC hC.lt (own_ne hO hC)).trans hC
       obtain ⟨A3, c3, rfl⟩ := own_slice hOn
       refine hK.out _ _ hHn (fun _ => ?_)
       clear hK K hgr
       clear hH hO hC
       have hH := hHn
       have hO := hOn
       have hC := hCn
       clear hHn hOn hCn
       rotate_left
      refine wpAnyH_ready (rs := [7, 8]) (by kernel_rfl) (by simp) ?_
      refine AllReadyH.cons rfl (fun K hK => ?_) (AllReadyH.cons rfl (fun K hK => ?_) AllReadyH.nil)
      rw [if_pos (by kernel_rfl)]
      go_simp
      have hrd := (Rd.of_own hO).mono (G := fun _ => True) (fun _ _ _ => trivial)
      rw [HXL.out] at hrd
      refine (HH.out _ _ _ _ hrd (by have := HM.out; omega)).mono ?_
      rintro e n5 ⟨rfl, hb⟩
      have hHn := hH.trans (hb.mono hH.size)
      refine hK.out _ _ hHn (fun _ => ?_)
      clear hK K hb hrd
      clear hH hO
      have hH := hHn
      clear hHn
      rotate_left
      rw [if_pos (by kernel_rfl)]
      refine wp_allocK 22 (By 0 32) rfl (fun w => by_alloc w) ?_
      have hb := Below.alloc1 n4 (.cells (By 0 32).toArray 22)
      have hCn := Row.new n4 (By 0 32) 22
      have geC := hH.size
      have hOn := hO.alloc (.cells (By 0 32).toArray 22)
      have hHn := hH.trans (hb.mono hH.size)
      refine hK.out _ _ hHn (fun _ => ?_)
      clear hK K hb
      generalize n4.alloc (.cells (By 0 32).toArray 22) = x4 at hHn hCn hOn ⊢
      generalize n4.heap.size = gC at hCn geC ⊢
      clear hH hO
      have hH := hHn
      have hO := hOn
      have hC := hCn
      clear hHn hOn hCn
      iterate 5
       refine wpAnyH_ready (rs := [7]) (by kernel_rfl) (by simp) ?_
       refine AllReadyH.cons rfl (fun K hK => ?_) AllReadyH.nil
       rw [if_pos (by kernel_rfl)]
       go_simp
       have hrd := (Rd.of_own hO).mono (G := fun _ => True) (fun _ _ _ => trivial)
       rw [HXL.out] at hrd
       refine (HH.out _ _ _ _ hrd (by have := HM.out; omega)).mono ?_
       rintro e x5 ⟨rfl, hb⟩
       have hHn := hH.trans (hb.mono hH.size)
       have hCn := hC.belowAll hb
       refine hK.out _ _ hHn (fun _ => ?_)
       clear hK K hb hrd
       clear hH hO hC
       have hH := hHn
       have hC := hCn
       clear hHn hCn
       rotate_left
      refine wpAnyH_ready (rs := [8]) (by kernel_rfl) (by simp) ?_
      refine AllReadyH.cons rfl (fun K hK => ?_) AllReadyH.nil
      rw [if_pos (by kernel_rfl)]
      refine wp_allocK 22 (By 0 32) rfl (fun w => by_alloc w) ?_
      have hb := Below.alloc1 n5 (.cells (By 0 32).toArray 22)
      have hCn := Row.new n5 (By 0 32) 22
      have geC := hH.size
      have hHn := hH.trans (hb.mono hH.size)
      refine hK.out _ _ hHn (fun _ => ?_)
      clear hK K hb
      generalize n5.alloc (.cells (By 0 32).toArray 22) = x5 at hHn hCn ⊢
      generalize n5.heap.size = gC at hCn geC ⊢
      clear hH
      have hH := hHn
      have hC := hCn
      clear hHn hCn
      all_goals
       refine wpAnyH_ready (rs := [9]) (by kernel_rfl) (by simp) ?_
       refine AllReadyH.cons rfl (fun K hK => ?_) AllReadyH.nil
       rw [if_pos (by kernel_rfl)]
       refine wp_store_row 22 (.tmp 12) (.tmp 47) rfl gC (By kk 32).toArray rfl rfl 22 _ hC (by_info _) (By_sz _ _) (By_one32 _) ?_
       have hC2 := hC.setRow (By kk 32)
       have hH2 := below_setRow (g := gC) hH geC (By kk 32).toArray
       refine hK.out _ _ hH2 (fun hHeld => ?_)
       clear hK K
       refine wpAnyH_done (by kernel_rfl) ?_ _
       exact ⟨rfl, gC, _, _, _, _, rfl, hH2, hC2⟩
     ·rintro a' W2 ⟨gC, v40, v42, v44, v46, rfl, hb, hC⟩
      have HC := yH hC
      have HS4 := yH (H83.out.belowAll hb)
      have HF4 := yH (H73.out.belowAll hb)
      have HP4 := yH (HP3.out.belowAll hb)
      have HW4 := yH (HW3.out.trans (hb.mono HW3.out.size))
      clear hC hb HK3 HR3 HW3 H73 H83 HP3 HH HXL SF SK HI HZ HX
      have hb0 : vfR Y S kk < 256 ^ 32 := by rw [← vfR_is hok hs HKK.out]; exact ptN_lt _
      have hend : vfB Y F S l = decide (vfR Y S kk = F) := by rw [vfB, hok, decide_eq_true hs, Bool.true_and, Bool.true_and, ← HKQ.out, vfR_is hok hs HKK.out]
      have hbt := fun w => bytp_ref (radP (rmuP baR S) (rmuP (rngP (decR Y)) kk) dL) w
      have e0 : ptR (radP (rmuP baR S) (rmuP (rngP (decR Y)) kk) dL) = vfR Y S kk := rfl
      rw [e0] at hbt
      generalize vfR Y S kk = V at *
      have HBT := yH hbt
      have HEND := yH hend
      clear hbt e0 hend
      go_upto_region 10 with fail
      refine wp_flat_none (aD := ?aD5) (S := fun w' => Below W2.heap.size W2 w')
       (vs := [(0, .agg (RL baR).toArray), (1, .agg (By S 32).toArray), (2, .agg (RL (rmuP baR S)).toArray), (3, .agg (RL (decR Y)).toArray), (4, .agg (RL (rngP (decR Y))).toArray), (5, .agg (By kk 32).toArray), (6, .agg (RL (rmuP (rngP (decR Y)) kk)).toArray), (7, .agg (Nw (nu dL)).toArray), (8, .agg (RL (radP (rmuP baR S) (rmuP (rngP (decR Y)) kk) dL)).toArray), (9, .agg (By V 32).toArray), (10, .agg (By F 32).toArray), (11, .bool (decide (V = F))), (12, .bool (decide (V = F)))]) (by kernel_rfl) ((Below.refl _ _).drew) (fun _ _ h k => S_trans h k) ?hD5 ?hk5 ?h5
      case hD5 =>
       refine .s 48 rfl (Gives.c (args := []) rfl Tryz.func21 (fun w' h => bap_ref w')) ?_
       refine .s 49 rfl (Gives.l 22 (.tmp 8) g8 (fun w' h => HS4.out.belowAll h) Tryz.underlying22 (by_info _)) ?_
       refine .s 50 rfl (Gives.c (args := [.agg (RL baR).toArray, .agg (By S 32).toArray]) rfl Tryz.func20 (fun w' h => mup_ref baR_ok S w')) ?_
       refine .s 51 rfl (Gives.l 39 (.tmp 10) g9 (fun w' h => HP4.out.belowAll h) Tryz.underlying39 (rl_info _)) ?_
       refine .s 52 rfl (Gives.c (args := [.agg (RL (decR Y)).toArray]) rfl Tryz.func48 (fun w' h => ngp_ref (decR_ok Y) w')) ?_
       refine .s 53 rfl (Gives.l 22 (.tmp 12) gC (fun w' h => HC.out.belowAll h) Tryz.underlying22 (by_info _)) ?_
       refine .s 54 rfl (Gives.c (args := [.agg (RL (rngP (decR Y))).toArray, .agg (By kk 32).toArray]) rfl Tryz.func20 (fun w' h => mup_ref (rng_ok (decR_ok Y)) kk w')) ?_
       refine .s 55 rfl (Gives.c (args := []) rfl Tryz.func40 (fun w' h => d_ref w')) ?_
       refine .s 56 rfl (Gives.c (args := [.agg (RL (rmuP baR S)).toArray, .agg (RL (rmuP (rngP (decR Y)) kk)).toArray, .agg (Nw (nu dL)).toArray]) rfl Tryz.func47 (fun w' h => addp_ref (rmu_ok baR_ok S) (rmu_ok (rng_ok (decR_ok Y)) kk) dL_ok w')) ?_
       refine .s 57 rfl (Gives.c (args := [.agg (RL (radP (rmuP baR S) (rmuP (rngP (decR Y)) kk) dL)).toArray]) rfl Tryz.func19 (fun w' h => HBT.out w')) ?_
       refine .s 58 rfl (Gives.l 22 (.tmp 7) g7 (fun w' h => HF4.out.belowAll h) Tryz.underlying22 (by_info _)) ?_
       refine .s 59 rfl (Gives.binop .eql 22 22 (.tmp 57) (.tmp 58) rfl _ _ _ rfl rfl (fun w' => bgrd _ _ _ _ _ w') (fun w' => beq_dec hb0 HF.out rfl w')) ?_
       refine .s 6 rfl (Gives.assign (x := .tmp 59) rfl rfl) ?_
       exact .nil
      case hk5 => kernel_rfl
      case h5 =>
      intro W5 hb
      have HW5 := yH (HW4.out.trans (hb.mono HW4.out.size))
      clear hb
      go_wp2_with fail
      go_ret
      refine ⟨?_, HW5.out⟩
      rw [HEND.out]
      generalize decide (V = F) = bb
      rfl
    ·rw [decide_eq_false hs]
     go_wp2_with fail
     go_ret
     refine ⟨?_, HW3.out⟩
     rw [vfB, hok, decide_eq_false hs]
     rfl
   ·have hok2 : decOk Y = false := by simpa using hok
    have hd := fun w => dr_ref Y w
    rw [hok2] at hd
    have HD := yH hd
    clear hd
    go_wp2_with (refine wpList_load_row rfl 22 (.tmp 3) rfl w.heap.size rfl 22 _ (0, 0) _ HK.out Tryz.underlying22 rfl (by_info _) ?_)
    refine (HD.out _).mono ?_
    rintro e w1 ⟨⟨rr, rfl⟩, hb⟩
    have hz := rl_zero_row w1
    have hb2 := below_setRow (g := w1.heap.size) (hb.alloc hb.size (.cells #[.int .u32 0, .int .u32 0, .int .u32 0, .int .u32 0, .int .u32 0, .int .u32 0, .int .u32 0, .int .u32 0, .int .u32 0, .int .u32 0, .int .u32 0, .int .u32 0, .int .u32 0, .int .u32 0, .int .u32 0, .int .u32 0, .int .u32 0, .int .u32 0, .int .u32 0, .int .u32 0, .int .u32 0, .int .u32 0, .int .u32 0, .int .u32 0] 39)) hb.size (RL rr).toArray
    have HZ := yH hz
    have HW2 := yH (HB.out.trans (hb2.mono HB.out.size))
    clear hb hz hb2 HK HR1 HB H7 H8 HD
    go_wp2_with (refine wpList_store_row rfl 39 (.tmp 10) (.tmp 31) rfl w1.heap.size _ rfl rfl 39 _ HZ.out (rl_info _) (RL_sz _ _) (RL_one _) ?_)
    go_ret
    refine ⟨?_, HW2.out⟩
    rw [vfB, hok2]
    rfl
end Go.Proofs.YtnpjecdodhkplaaGreatDoor
