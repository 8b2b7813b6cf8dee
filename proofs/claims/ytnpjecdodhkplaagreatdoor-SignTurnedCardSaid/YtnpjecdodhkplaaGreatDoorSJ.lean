import Derived.Great.BuildSlice
import Derived.Test.YtnpjecdodhkplaaGreatDoorSE
namespace Go.Proofs.YtnpjecdodhkplaaGreatDoor
set_option maxRecDepth 100000
set_option linter.unusedSimpArgs false
set_option linter.unusedVariables false
open Go.RowKit
open List renaming setIfInBounds_toArray → yA, set_cons_zero → yB, set_cons_succ → yC
open Lib renaming hid → yH
section
section
open Go.RowKit
def setsL (l : List Value) : Nat → List Value → List Value
 | _, [] => l
 | o, v :: r => setsL (l.set o v) (o + 1) r
theorem setsL_length : ∀ (vs : List Value) (l : List Value) (o : Nat), (setsL l o vs).length = l.length
 | [], _, _ => rfl
 | v :: r, l, o => by rw [setsL, setsL_length r, List.length_set]
theorem setsL_get : ∀ (vs : List Value) (l : List Value) (o j : Nat), o + vs.length ≤ l.length → (setsL l o vs)[j]? = if o ≤ j ∧ j < o + vs.length then vs[j - o]? else l[j]?
 | [], l, o, j, _ => by
  rw [setsL, if_neg (by simp only [List.length_nil]; omega)]
 | v :: r, l, o, j, h => by
  simp only [List.length_cons] at h
  rw [setsL, setsL_get r _ _ j (by rw [List.length_set]; omega)]
  by_cases h1 : o = j
  ·subst h1
   rw [if_neg (by omega), if_pos (by simp), Nat.sub_self, List.getElem?_set, if_pos rfl, if_pos (by omega)]
   rfl
  ·by_cases h2 : o + 1 ≤ j ∧ j < o + 1 + r.length
   ·rw [if_pos h2, if_pos (by simp; omega), show j - o = (j - (o + 1)) + 1 by omega]
    rfl
   ·rw [if_neg h2, if_neg (by simp; omega), List.getElem?_set, if_neg h1]
theorem Row.setCells : ∀ (vs : List Value) {w : World} {g o : Nat} {T : TypeId} {l : List Value}, Row w g T l → Row (w.setCells g o vs) g T (setsL l o vs)
 | [], _, _, _, _, _, h => h
 | v :: r, _, _, o, _, _, h => Row.setCells r (h.set o v)
theorem Row.setCellsOther : ∀ (vs : List Value) {w : World} {g k o : Nat} {T : TypeId} {l : List Value}, Row w g T l → g ≠ k → Row (w.setCells k o vs) g T l
 | [], _, _, _, _, _, _, h, _ => h
 | v :: r, _, _, _, _, _, _, h, hk => Row.setCellsOther r (h.setCell (p := ⟨_, _, none⟩) hk v) hk
theorem below_setCells : ∀ (vs : List Value) {B g o : Nat} {w0 w : World}, Below B w0 w → B ≤ g → Below B w0 (w.setCells g o vs)
 | [], _, _, _, _, _, h, _ => h
 | v :: r, _, _, _, _, _, h, hg => below_setCells r (h.setCell (p := ⟨_, _, none⟩) hg v) hg
theorem Row.there {w : World} {g : Nat} {T : TypeId} {l : List Value} (h : Row w g T l) {o n : Nat} (hn : o + n ≤ l.length) : w.there g o n := fun j hj =>
 ⟨by rw [h.cell (List.getElem?_eq_getElem (by omega))]; rfl, h.free _⟩
def Pts (f : Nat → Pm) : Nat → List Value
 | 0 => []
 | n + 1 => Pts f n ++ PL (f n)
theorem Pts_length (f : Nat → Pm) : ∀ n, (Pts f n).length = 20 * n
 | 0 => rfl
 | n + 1 => by rw [Pts, List.length_append, Pts_length f n, PL_length]; omega
theorem Pts_get (f : Nat → Pm) : ∀ (n i : Nat), i < n → ∀ j v, (PL (f i))[j]? = some v → (Pts f n)[20 * i + j]? = some v
 | n + 1, i, h, j, v, hv => by
  have hj : j < 20 := by have := (List.getElem?_eq_some_iff.1 hv).1; rwa [PL_length] at this
  rw [Pts]
  by_cases e : i = n
  ·subst e
   rw [List.getElem?_append_right (by rw [Pts_length]; omega), Pts_length, Nat.add_sub_cancel_left]
   exact hv
  ·rw [List.getElem?_append_left (by rw [Pts_length]; omega)]
   exact Pts_get f n i (by omega) j v hv
def SH (N : Nat) (f : Nat → Pm) : List Value := By N 32 ++ Pts f 16
theorem SH_length (N : Nat) (f : Nat → Pm) : (SH N f).length = 352 := by rw [SH, List.length_append, By_length, Pts_length]
theorem SH_byte (N : Nat) (f : Nat → Pm) {k : Nat} (hk : k < 32) : (SH N f)[k]? = some (.int .u8 ((byt N k : Nat) : Int)) := by
 rw [SH, List.getElem?_append_left (by rw [By_length]; exact hk)]
 exact By_get N 32 hk
theorem SH_pt (N : Nat) (f : Nat → Pm) {i : Nat} (hi : i < 16) (j : Nat) (v : Value) (hv : (PL (f i))[j]? = some v) : (SH N f)[(32 + 20 * i) + j]? = some v := by
 rw [SH, List.getElem?_append_right (by rw [By_length]; omega), By_length, show 32 + 20 * i + j - 32 = 20 * i + j by omega]
 exact Pts_get f 16 i hi j v hv
theorem SH_ext {l : List Value} (N : Nat) (f : Nat → Pm) (hl : l.length = 352) (h1 : ∀ k, k < 32 → l[k]? = (By N 32)[k]?) (h2 : ∀ i, i < 16 → ∀ j, j < 20 → l[(32 + 20 * i) + j]? = (PL (f i))[j]?) : l = SH N f := by
 refine List.ext_getElem? fun k => ?_
 by_cases hk : k < 32
 ·rw [h1 k hk, SH, List.getElem?_append_left (by rw [By_length]; exact hk)]
 ·by_cases hk2 : k < 352
  ·have e : k = (32 + 20 * ((k - 32) / 20)) + (k - 32) % 20 := by omega
   have hi : (k - 32) / 20 < 16 := by omega
   have hj : (k - 32) % 20 < 20 := Nat.mod_lt _ (by decide)
   have hg : (PL (f ((k - 32) / 20)))[(k - 32) % 20]? = some ((PL (f ((k - 32) / 20)))[(k - 32) % 20]'(by rw [PL_length]; exact hj)) := List.getElem?_eq_getElem _
   rw [e, h2 _ hi _ hj, hg]
   exact (SH_pt N f hi _ _ hg).symm
  ·rw [List.getElem?_eq_none (by omega), List.getElem?_eq_none (by rw [SH_length]; omega)]
theorem SH_set (N : Nat) (f : Nat → Pm) {i : Nat} (hi : i < 16) (q : Pm) : setsL (SH N f) (32 + 20 * i) (PL q) = SH N (fun k => if k = i then q else f k) := by
 have hlen : 32 + 20 * i + (PL q).length ≤ (SH N f).length := by rw [PL_length, SH_length]; omega
 refine SH_ext N _ (by rw [setsL_length, SH_length]) (fun k hk => ?_) (fun m hm j hj => ?_)
 ·rw [setsL_get _ _ _ _ hlen, if_neg (by omega), SH, List.getElem?_append_left (by rw [By_length]; exact hk)]
 ·rw [setsL_get _ _ _ _ hlen, PL_length]
  have hg : (PL (f m))[j]? = some ((PL (f m))[j]'(by rw [PL_length]; exact hj)) := List.getElem?_eq_getElem _
  by_cases e : m = i
  ·subst e
   rw [if_pos (by omega), if_pos rfl, Nat.add_sub_cancel_left]
  ·rw [if_neg (by omega), if_neg e, SH_pt N f hm _ _ hg, hg]
theorem PL_all (p : Pm) : ∀ v ∈ PL p, v.oneCell' = true := fun v hv => (Array.all_eq_true_iff_forall_mem.1 (PL_one p)) v (by simpa using hv)
theorem Pts_all (f : Nat → Pm) : ∀ n, ∀ v ∈ Pts f n, v.oneCell' = true
 | 0, v, h => by cases h
 | n + 1, v, h => by
  rcases List.mem_append.1 h with h | h
  ·exact Pts_all f n v h
  ·exact PL_all _ v h
theorem SH_all (N : Nat) (f : Nat → Pm) : ∀ v ∈ SH N f, v.oneCell' = true := fun v hv => by
 rcases List.mem_append.1 hv with h | h
 ·exact (Array.all_eq_true_iff_forall_mem.1 (By_one N 32)) v (by simpa using h)
 ·exact Pts_all f 16 v h
theorem SH_one (N : Nat) (f : Nat → Pm) : (SH N f).toArray.all (·.oneCell') = true := all_oneCell_toArray (SH_all N f)
theorem SH_sz (N M : Nat) (f h : Nat → Pm) : (SH N f).toArray.size = (SH M h).toArray.size := by rw [List.size_toArray, List.size_toArray, SH_length, SH_length]
theorem sh_size : (Tryz.prog.info? 98).map (·.size) = some 352 := by kernel_rfl
theorem sh_info (N : Nat) (f : Nat → Pm) : (Tryz.prog.info? 98).map (·.size) = some (SH N f).toArray.size := sh_size.trans (by rw [List.size_toArray, SH_length])
theorem wp_flat_mid {P : Program} {ops : Array Oper} {Q : Exit → Act → World → Prop} {S : World → Prop} {id : Nat} {vs : List (Nat × Value)} {a0 aD : Act} {w0 : World} {s : Nat} {os : Oper} {T T' : TypeId} {g off : Nat} {l c : List Value} {x y : Operand} (hm : P.follows .mixedOrders = true) (hS : S w0.drew)
  (hSB : ∀ w w', S w → Below w.heap.size w w' → S w') (hD : Dets P ops S vs a0 aD)
  (hk : (detsOk ops [] (vs.map (·.1)) && lateOk ops (vs.map (·.1)) [s] && dstsIn ops a0.tmps.size && Region.noSelect ops && (cnt ops (lateL ops [s]) == 1) && (Region.ready .any ops (lateL ops [s]) == [s])) = true)
  (hos : ops[s]? = some os) (hgd : os.guard = none) (hst : os.op = .store T x y) (hdn : os.dst = none) (hx : aD.eval x = .pointer (some ⟨g, off, none⟩)) (hy : aD.eval y = .agg c.toArray)
  (hr : ∀ w, S w → Row w g T' l) (hi : (P.info? T).map (·.size) = some c.toArray.size) (hn : off + c.length ≤ l.length) (h1 : c.toArray.all (·.oneCell') = true)
  (hend : ∀ w, S w → Q .normal aD (w.setCells g off c)) : (Code.region id ops true).wp P Q a0 w0 := by
 refine wp_flat_late hm hS hSB hD hk hos hgd fun w hS' => ?_
 refine wp_store_mid T x y hst g off c.toArray hx hy ((hr w hS').there (by simpa using hn)) hi h1 ?_
 rw [hdn]
 exact hend w hS'
def tabP (p : Pm) : Nat → Pm
 | 0 => ze1
 | n + 1 => adP (tabP p n) p
theorem tabP_ok {p : Pm} (h : p.ok) : ∀ n, (tabP p n).ok := by
 intro n
 induction n with
 | zero => rw [tabP]; exact ze1_ok
 | succ n ih => rw [tabP]; exact adP_ok ih h
def tabQ (p : Pm) (k i : Nat) : Pm := if i < k then tabP p i else zeP
theorem SH_more (N : Nat) (p : Pm) {k : Nat} (hk : k < 16) : setsL (SH N (tabQ p k)) (32 + 20 * k) (PL (tabP p k)) = SH N (tabQ p (k + 1)) := by
 rw [SH_set N _ hk]
 congr 1
 funext i
 unfold tabQ
 by_cases e : i = k
 ·subst e; rw [if_pos rfl, if_pos (by omega)]
 ·rw [if_neg e]
  by_cases h2 : i < k
  ·rw [if_pos h2, if_pos (by omega)]
  ·rw [if_neg h2, if_neg (by omega)]
theorem SH_full (N : Nat) (p : Pm) : SH N (tabQ p 16) = SH N (tabP p) := by
 refine SH_ext N _ (SH_length _ _) (fun k hk => ?_) (fun i hi j hj => ?_)
 ·rw [SH, List.getElem?_append_left (by rw [By_length]; exact hk)]
 ·have hg : (PL (tabQ p 16 i))[j]? = some ((PL (tabQ p 16 i))[j]'(by rw [PL_length]; exact hj)) := List.getElem?_eq_getElem _
  rw [SH_pt N _ hi _ _ hg, ← hg]
  unfold tabQ
  rw [if_pos hi]
abbrev Shr := Nat × Pm
def digP (s : Shr) (m : Nat) : Pm := tabP s.2 (s.1 / 2 ^ (4 * m) % 16)
def do4 (a : Pm) : Pm := doP (doP (doP (doP a)))
def addS (m : Nat) (l : List Shr) (a : Pm) : Pm := l.foldl (fun a s => adP a (digP s m)) a
theorem addS_nil (m : Nat) (a : Pm) : addS m [] a = a := List.foldl_nil ..
theorem addS_cons (m : Nat) (s : Shr) (r : List Shr) (a : Pm) : addS m (s :: r) a = addS m r (adP a (digP s m)) := List.foldl_cons ..
def togU (l : List Shr) : Nat → Pm
 | 0 => ze1
 | k + 1 => addS (63 - k) l (do4 (togU l k))
def togP (l : List Shr) : Pm := togU l 64
theorem do4_ok {a : Pm} (h : a.ok) : (do4 a).ok := doP_ok (doP_ok (doP_ok (doP_ok h)))
theorem addS_ok (m : Nat) (l : List Shr) : ∀ {a : Pm}, (∀ s ∈ l, s.2.ok) → a.ok → (addS m l a).ok := by
 induction l with
 | nil => intro a _ h; rw [addS_nil]; exact h
 | cons s r ih =>
  intro a hl h
  rw [addS_cons]
  exact ih (fun t ht => hl t (List.mem_cons_of_mem _ ht)) (adP_ok h (by unfold digP; exact tabP_ok (hl s (List.mem_cons_self ..)) _))
theorem togU_ok (l : List Shr) (hl : ∀ s ∈ l, s.2.ok) : ∀ k, (togU l k).ok := by
 intro k
 induction k with
 | zero => rw [togU]; exact ze1_ok
 | succ k ih => rw [togU]; exact addS_ok _ l hl (do4_ok ih)
end
section
open Go.RowKit
theorem sh_build (N : Nat) (p : Pm) (w : World) : (Instr.build 98 #[(0, .agg (By N 32).toArray)]).run Tryz.prog w = .ok (.agg (SH N (tabQ p 0)).toArray) w := run_build w 98 _ _ (by kernel_rfl)
theorem fs_1 (g o : Nat) (w : World) : (Instr.fieldAt 98 (.pointer (some ⟨g, o, none⟩)) 1).run Tryz.prog w = .ok (.pointer (some ⟨g, o + 32, none⟩)) w := by
 have h : (Instr.fieldAt 98 (.pointer (some ⟨g, o, none⟩)) 1).run Tryz.prog w = .ok (.pointer (some ((⟨g, o, none⟩ : Addr).add 32))) w := by kernel_rfl
 rw [h, Addr.add_mid]
theorem fs_0 (g o : Nat) (w : World) : (Instr.fieldAt 98 (.pointer (some ⟨g, o, none⟩)) 0).run Tryz.prog w = .ok (.pointer (some ⟨g, o, none⟩)) w := by
 have h : (Instr.fieldAt 98 (.pointer (some ⟨g, o, none⟩)) 0).run Tryz.prog w = .ok (.pointer (some ((⟨g, o, none⟩ : Addr).add 0))) w := by kernel_rfl
 rw [h, Addr.add_mid, Nat.add_zero]
theorem ix_pt (g o m : Nat) (h : m < 16) (w : World) : (Instr.indexAt 96 (.pointer (some ⟨g, o, none⟩)) (.int .i64 (m : Int))).run Tryz.prog w = .ok (.pointer (some ⟨g, o + 20 * m, none⟩)) w := by
 have h1 : (0 : Int) ≤ (m : Int) := by omega
 have h2 : (m : Int) < 16 := by omega
 have e : (⟨g, o, none⟩ : Addr).add (m * 20) = ⟨g, o + 20 * m, none⟩ := by rw [Addr.add_mid, Nat.mul_comm]
 go_simp
 try rw [e]
theorem bi_sub (m : Nat) (h : m < 16) (w : World) : (binOp .sub 3 (.int .i64 ((m : Int) + 1)) (.int .i64 1)).run Tryz.prog w = .ok (.int .i64 (m : Int)) w := by
 have e : IntKind.i64.wrap (m : Int) = (m : Int) := IntWalk.i64_in _ (by omega)
 go_simp
 first | rw [e] | skip
theorem bg_sub (x y : Operand) (u v : Value) (w : World) : (eqGuard .sub 3 x y u v).run Tryz.prog w = .ok () w := by rfl
theorem z352 : Tryz.zeroCells98 = (SH 0 (fun _ => zeP)).toArray := by kernel_rfl
set_option maxHeartbeats 6400000 in
theorem so_any (N : Nat) {p : Pm} (hp : p.ok) (w : World) (hq : Gc w) :
  Calls Tryz.prog 59 #[.agg (By N 32).toArray, .agg (PL p).toArray] w fun e w' => e = .returned (.agg (SH N (tabP p)).toArray) ∧ Below w.heap.size w w' := by
 have hb0 := (((Row.new w (By N 32) 22).alloc (.cells (PL p).toArray 64)).alloc (.cells Tryz.zeroCells98 98)).alloc (.cells Tryz.zeroCells98 98)
 have hb1 := ((Row.new1 w (.cells (By N 32).toArray 22) (PL p) 64).alloc (.cells Tryz.zeroCells98 98)).alloc (.cells Tryz.zeroCells98 98)
 have hz : Row ((((w.alloc (.cells (By N 32).toArray 22)).alloc (.cells (PL p).toArray 64)).alloc (.cells Tryz.zeroCells98 98)).alloc (.cells Tryz.zeroCells98 98)) (w.heap.size + 1 + 1) 98 (SH 0 (fun _ => zeP)) := by
  rw [z352]
  exact (Row.new2 w _ _ _ _).alloc _
 have h5n : Row ((((w.alloc (.cells (By N 32).toArray 22)).alloc (.cells (PL p).toArray 64)).alloc (.cells Tryz.zeroCells98 98)).alloc (.cells Tryz.zeroCells98 98)) (w.heap.size + 1 + 1 + 1) 98 (SH 0 (fun _ => zeP)) := by
  rw [z352]
  exact Row.new3 w _ _ _ _ _
 have hl0 := ((Row.new w (By N 32) 22).alloc (.cells (PL p).toArray 64)).alloc (.cells Tryz.zeroCells98 98)
 have hw := below_setRow (g := w.heap.size + 1 + 1 + 1) (Below.alloc4 w (.cells (By N 32).toArray 22) (.cells (PL p).toArray 64) (.cells Tryz.zeroCells98 98) (.cells Tryz.zeroCells98 98)) (by omega) (SH N (tabQ p 0)).toArray
 replace hb1 := hb1.setRowOther (k := w.heap.size + 1 + 1 + 1) (by omega) (SH N (tabQ p 0)).toArray
 replace hz := hz.setRowOther (k := w.heap.size + 1 + 1 + 1) (by omega) (SH N (tabQ p 0)).toArray
 have h5 := h5n.setRow (SH N (tabQ p 0))
 have HL0 := yH hl0
 have H5N := yH h5n
 clear hl0 h5n hb0
 go_enter Tryz.func59, Tryz.ntmps59
 go_wp2_with (first
  | (refine wpList_load_row rfl 22 (.tmp 2) rfl w.heap.size rfl 22 _ (0, 0) _ HL0.out Tryz.underlying22 rfl (by_info _) ?_)
  | (refine wpList_build1 rfl 98 (.tmp 7) rfl (.agg (By N 32).toArray) (.agg (SH N (tabQ p 0)).toArray) rfl (sh_build N p _) ?_)
  | (refine wpList_store_row rfl 98 (.tmp 5) (.tmp 8) rfl (w.heap.size + 1 + 1 + 1) _ rfl rfl 98 _ H5N.out (sh_info _ _) (SH_sz _ _ _ _) (SH_one _ _) ?_))
 clear HL0 H5N
 refine (ze_any _ (hq.belowAll hw)).mono ?_
 rintro e W1 ⟨rfl, hb⟩
 replace hb1 := hb1.belowAll hb
 replace hz := hz.belowAll hb
 replace h5 := h5.belowAll hb
 replace hw := hw.trans (hb.mono hw.size)
 clear hb
 have HTH := yH (h5.there (o := 32) (n := (PL ze1).toArray.size) (by rw [SH_length]; decide))
 replace hb1 := hb1.setCellsOther (PL ze1) (k := w.heap.size + 1 + 1 + 1) (o := 32) (by omega)
 replace hz := hz.setCellsOther (PL ze1) (k := w.heap.size + 1 + 1 + 1) (o := 32) (by omega)
 replace hw := below_setCells (PL ze1) (g := w.heap.size + 1 + 1 + 1) (o := 32) hw (by omega)
 replace h5 := h5.setCells (PL ze1) (o := 32)
 rw [show setsL (SH N (tabQ p 0)) 32 (PL ze1) = SH N (tabQ p 1) from SH_more N p (k := 0) (by decide)] at h5
 go_wp2_with (refine wpList_store_mid rfl 64 (.tmp 11) (.tmp 9) rfl (w.heap.size + 1 + 1 + 1) 32 (PL ze1).toArray rfl rfl HTH.out (pl_info _) (PL_one _) ?_)
 clear HTH
 generalize W1.setCells (w.heap.size + 1 + 1 + 1) 32 (PL ze1).toArray.toList = V1 at *
 have HB1 := yH hb1
 have HZ := yH hz
 have H5 := yH h5
 have HW := yH hw
 have HQ := yH hq
 clear hb1 hz h5 hw hq
 go_loopw [6] (fun i wr => ∃ m : Nat, m ≤ 15 ∧ i = .int .i64 ((m : Int) + 1) ∧ Row wr (w.heap.size + 1) 64 (PL p) ∧ Row wr (w.heap.size + 1 + 1) 98 (SH 0 (fun _ => zeP)) ∧ Row wr (w.heap.size + 1 + 1 + 1) 98 (SH N (tabQ p (m + 1))) ∧ Below w.heap.size w wr) (fun i _ => 16 - (intOf i).toNat)
 case atStart => exact ⟨0, by omega, rfl, HB1.out, HZ.out, H5.out, HW.out⟩
 case round =>
  obtain ⟨m, hm15, rfl, hb1, hz, h5, hw⟩ := hrel
  by_cases hm : m < 15
  ·have hi : (m : Int) + 1 < 16 := by omega
   have hj : (0 : Int) ≤ (m : Int) + 1 := by omega
   have hj0 : (0 : Int) ≤ (m : Int) := by omega
   have hpt : ∀ j v, (PL (tabP p m))[j]? = some v → (SH N (tabQ p (m + 1)))[(32 + 20 * m) + j]? = some v := fun j v hv => SH_pt N (tabQ p (m + 1)) (by omega) j v (by unfold tabQ; rw [if_pos (by omega)]; exact hv)
   have hok := tabP_ok hp m
   have hnew : adP (tabP p m) p = tabP p (m + 1) := rfl
   have hmore := SH_more N p (k := m + 1) (by omega)
   have hadd := fun wx hq => ad_any hok hp wx hq
   rw [hnew] at hadd
   have HADD := yH hadd
   have HMORE := yH hmore
   have HPT := yH hpt
   clear hadd hmore hnew hpt
   generalize tabP p (m + 1) = tn at *
   generalize tabP p m = tm at *
   go_wp2_with fail
   refine wp_flat_mid (aD := ?aD1) (S := fun w' => Below wr.heap.size wr w') (s := 10) (T := 64) (T' := 98) (g := w.heap.size + 1 + 1 + 1) (off := 32 + 20 * (m + 1)) (l := SH N (tabQ p (m + 1))) (c := PL tn) (x := .tmp 25) (y := .tmp 23)
    (vs := [(0, .int .i64 ((m : Int) + 1)), (1, .int .i64 ((m : Int) + 1)), (2, .int .i64 (m : Int)), (3, .pointer (some ⟨w.heap.size + 1 + 1 + 1, 32, none⟩)), (4, .pointer (some ⟨w.heap.size + 1 + 1 + 1, 32 + 20 * m, none⟩)), (5, .agg (PL tm).toArray), (6, .agg (PL p).toArray), (7, .agg (PL tn).toArray), (8, .pointer (some ⟨w.heap.size + 1 + 1 + 1, 32, none⟩)), (9, .pointer (some ⟨w.heap.size + 1 + 1 + 1, 32 + 20 * (m + 1), none⟩))]) (by kernel_rfl) ((Below.refl _ _).drew) (fun _ _ h k => S_trans h k) ?hD1 ?hk1 rfl rfl rfl rfl ?ea1 ?eb1 (fun w' h => h5.belowAll h) (pl_info _) (by rw [PL_length, SH_length]; omega) (PL_one _) ?h1
   case hD1 =>
    refine .s 16 rfl (Gives.move (x := (.tmp 6)) rfl rfl) ?_
    refine .s 17 rfl (Gives.move (x := (.tmp 6)) rfl rfl) ?_
    refine .s 18 rfl (Gives.binop .sub 3 3 (.tmp 17) (.const (.int .i64 1)) rfl _ _ _ rfl rfl (fun w' => bg_sub _ _ _ _ w') (fun w' => bi_sub m (by omega) w')) ?_
    refine .s 19 rfl (Gives.fieldAt 98 (.tmp 5) 1 rfl _ _ rfl (fun w' => fs_1 _ 0 w')) ?_
    refine .s 20 rfl (Gives.indexAt 96 (.tmp 19) (.tmp 18) rfl _ _ _ rfl rfl (fun w' => ix_pt _ 32 m (by omega) w')) ?_
    refine .s 21 rfl (Gives.load_at 64 (.tmp 20) rfl ⟨w.heap.size + 1 + 1 + 1, 32 + 20 * m, none⟩ rfl (PL tm) _ (fun w' h => (h5.belowAll h).part (32 + 20 * m) (PL tm) HPT.out) Tryz.underlying64 rfl (pl_len _)) ?_
    refine .s 22 rfl (Gives.l 64 (.tmp 3) (w.heap.size + 1) (fun w' h => hb1.belowAll h) Tryz.underlying64 (pl_info _)) ?_
    refine .s 23 rfl (Gives.c (args := [.agg (PL tm).toArray, .agg (PL p).toArray]) rfl Tryz.func95 (fun w' h => HADD.out w' ((HQ.out.belowAll hw).belowAll h))) ?_
    refine .s 24 rfl (Gives.fieldAt 98 (.tmp 5) 1 rfl _ _ rfl (fun w' => fs_1 _ 0 w')) ?_
    refine .s 25 rfl (Gives.indexAt 96 (.tmp 24) (.tmp 16) rfl _ _ _ rfl rfl (fun w' => ix_pt _ 32 (m + 1) (by omega) w')) ?_
    exact .nil
   case hk1 => kernel_rfl
   case ea1 => rfl
   case eb1 => rfl
   case h1 =>
   intro W2 hb
   replace hb1 := (hb1.belowAll hb).setCellsOther (PL tn) (k := w.heap.size + 1 + 1 + 1) (o := 32 + 20 * (m + 1)) (by omega)
   replace hz := (hz.belowAll hb).setCellsOther (PL tn) (k := w.heap.size + 1 + 1 + 1) (o := 32 + 20 * (m + 1)) (by omega)
   replace h5 := (h5.belowAll hb).setCells (PL tn) (o := 32 + 20 * (m + 1))
   rw [HMORE.out] at h5
   replace hw := below_setCells (PL tn) (g := w.heap.size + 1 + 1 + 1) (o := 32 + 20 * (m + 1)) (hw.trans (hb.mono hw.size)) (by omega)
   have HB1 := yH hb1
   have HZ := yH hz
   have H5 := yH h5
   have HW := yH hw
   clear hb1 hz h5 hw hb
   go_wp2_with fail
   go_roundw
   case rel => exact ⟨m + 1, by omega, by go_num, HB1.out, HZ.out, H5.out, HW.out⟩
   case measure => simp [intOf] <;> omega
  ·obtain rfl : m = 15 := by omega
   rw [SH_full] at h5
   have HZ := yH hz
   have H5 := yH h5
   have hgot := setRow_heap _ (w.heap.size + 1 + 1) _ (SH N (tabP p)).toArray _ _ hz
   have HGOT := yH hgot
   have HW := yH hw
   clear hb1 hz h5 hw hgot
   go_wp2_with (first
    | (refine wpList_load_row rfl 98 (.tmp 5) rfl (w.heap.size + 1 + 1 + 1) rfl 98 _ (0, 0) _ H5.out Tryz.underlying98 rfl (sh_info _ _) ?_)
    | (refine wpList_store_row rfl 98 (.tmp 4) (.tmp 26) rfl (w.heap.size + 1 + 1) _ rfl rfl 98 _ HZ.out (sh_info _ _) (SH_sz _ _ _ _) (SH_one _ _) ?_))
   refine bodyPost_ret (results_cell_row (by rfl) _ _ (w.heap.size + 1 + 1) _ _ _ _ (by rfl) HGOT.out Tryz.underlying98 rfl (sh_info _ _)) rfl ?_
   exact ⟨rfl, below_setRow HW.out (by omega) _⟩
end
section
open Go.RowKit
theorem of_quo (B : Nat) (h : B < 256) (w : World) : (binOp .quo 3 (.int .i64 (B : Int)) (.int .i64 8)).run Tryz.prog w = .ok (.int .i64 ((B / 8 : Nat) : Int)) w := by
 go_simp
 exact IntWalk.i64_in _ (by omega)
theorem of_rem (B : Nat) (h : B < 256) (w : World) : (binOp .rem 3 (.int .i64 (B : Int)) (.int .i64 8)).run Tryz.prog w = .ok (.int .i64 ((B % 8 : Nat) : Int)) w := by
 go_simp
 exact Int.tmod_eq_emod_of_nonneg (by omega)
theorem of_shr (c r : Nat) (hc : c < 256) (hr : r < 8) (w : World) : (binOp .shr 5 (.int .u8 (c : Int)) (.int .i64 (r : Int))).run Tryz.prog w = .ok (.int .u8 ((c / 2 ^ r : Nat) : Int)) w := by
 go_simp
theorem of_mod (c : Nat) (hc : c < 256) (w : World) : (binOp .rem 5 (.int .u8 (c : Int)) (.int .u8 16)).run Tryz.prog w = .ok (.int .u8 ((c % 16 : Nat) : Int)) w := by
 go_simp
 exact Int.tmod_eq_emod_of_nonneg (by omega)
theorem og_any (op : BinOp) (T : TypeId) (hne : op = .quo ∨ op = .rem ∨ op = .shr) (x y : Operand) (u v : Value) (w : World) : (eqGuard op T x y u v).run Tryz.prog w = .ok () w := by
 rcases hne with rfl | rfl | rfl <;> rfl
theorem ix_by (g o m : Nat) (h : m < 32) (w : World) : (Instr.indexAt 22 (.pointer (some ⟨g, o, none⟩)) (.int .i64 (m : Int))).run Tryz.prog w = .ok (.pointer (some ⟨g, o + m, none⟩)) w := by
 have h1 : (0 : Int) ≤ (m : Int) := by omega
 have h2 : (m : Int) < 32 := by omega
 have e : (⟨g, o, none⟩ : Addr).add m = ⟨g, o + m, none⟩ := by rw [Addr.add_mid]
 go_simp
 try rw [e]
theorem ix_p8 (g o m : Nat) (h : m < 16) (w : World) : (Instr.indexAt 96 (.pointer (some ⟨g, o, none⟩)) (.int .u8 (m : Int))).run Tryz.prog w = .ok (.pointer (some ⟨g, o + 20 * m, none⟩)) w := by
 have h1 : (0 : Int) ≤ (m : Int) := by omega
 have h2 : (m : Int) < 16 := by omega
 have e : (⟨g, o, none⟩ : Addr).add (m * 20) = ⟨g, o + 20 * m, none⟩ := by rw [Addr.add_mid, Nat.mul_comm]
 go_simp
 try rw [e]
theorem Gives.nil {P : Program} {S : World → Prop} {o : Oper} {a : Act} (x : Operand) (ho : o.op = .nilCheck x) (ad : Addr) (hx : a.eval x = .pointer (some ad)) : Gives P S o (.pointer (some ad)) a :=
 Gives.run fun w _ => by
  unfold execOp
  simp only [ho, hx]
  rfl
theorem ld_by {a : Addr} {v : Value} {w : World} (h : w.cell? a = some v) : (Instr.loadAt 5 (.pointer (some a))).run Tryz.prog w = .ok v w := by
 go_simp
theorem dig_at (N m : Nat) : byt N (4 * m / 8) / 2 ^ (4 * m % 8) % 16 = N / 2 ^ (4 * m) % 16 := by
 unfold byt
 rcases Nat.mod_two_eq_zero_or_one m with h | h
 ·have e1 : 4 * m % 8 = 0 := by omega
  have e2 : 8 * (4 * m / 8) = 4 * m := by omega
  rw [e1, e2, Nat.pow_zero, Nat.div_one]
  omega
 ·have e1 : 4 * m % 8 = 4 := by omega
  have e2 : 4 * m = 8 * (4 * m / 8) + 4 := by omega
  have e3 : N / 2 ^ (4 * m) = N / 2 ^ (8 * (4 * m / 8)) / 2 ^ 4 := by
   rw [Nat.div_div_eq_div_mul, ← Nat.pow_add]
   congr 2
  rw [e1, e3]
  generalize N / 2 ^ (8 * (4 * m / 8)) = X
  show X % 256 / 16 % 16 = X / 16 % 16
  omega
set_option maxHeartbeats 3200000 in
theorem of_pt (N : Nat) (f : Nat → Pm) (b o m B : Nat) (hBm : B = 4 * m) (hm : m < 64) (w : World) (hr : ∀ j v, (SH N f)[j]? = some v → w.cell? ⟨b, o + j, none⟩ = some v) (hb : b < w.heap.size) :
  Calls Tryz.prog 96 #[.pointer (some ⟨b, o, none⟩), .int .i64 (B : Int)] w fun e w' => e = .returned (.agg (PL (f (N / 2 ^ (4 * m) % 16))).toArray) ∧ Below w.heap.size w w' := by
 have hB : B < 256 := by omega
 have hdig : byt N (B / 8) / 2 ^ (B % 8) % 16 = N / 2 ^ (4 * m) % 16 := by rw [hBm]; exact dig_at N m
 have hc := byt_lt N (B / 8)
 have hcl : byt N (B / 8) / 2 ^ (B % 8) < 256 := Nat.lt_of_le_of_lt (Nat.div_le_self _ _) hc
 have hz := Row.new w (PL zeP) 64
 have hw := Below.alloc1 w (.cells (PL zeP).toArray 64)
 have hbc : ∀ w', Below w.heap.size w w' → w'.cell? ⟨b, o + B / 8, none⟩ = some (.int .u8 ((byt N (B / 8) : Nat) : Int)) := fun w' h => (h.cell (p := ⟨b, o + B / 8, none⟩) hb).trans (hr _ _ (SH_byte N f (by omega)))
 have hpc : ∀ w', Below w.heap.size w w' → ∀ j v, (PL (f (N / 2 ^ (4 * m) % 16)))[j]? = some v → w'.cell? ((⟨b, o + 32 + 20 * (byt N (B / 8) / 2 ^ (B % 8) % 16), none⟩ : Addr).add j) = some v := fun w' h j v hv => by
  rw [Addr.add_mid, hdig]
  have h1 := hr _ _ (SH_pt N f (i := N / 2 ^ (4 * m) % 16) (by omega) j v hv)
  rw [show o + 32 + 20 * (N / 2 ^ (4 * m) % 16) + j = o + (32 + 20 * (N / 2 ^ (4 * m) % 16) + j) by omega]
  exact (h.cell (p := ⟨b, o + (32 + 20 * (N / 2 ^ (4 * m) % 16) + j), none⟩) hb).trans h1
 generalize f (N / 2 ^ (4 * m) % 16) = q at *
 generalize byt N (B / 8) = c at *
 clear hdig hBm hr
 go_enter Tryz.func96, Tryz.ntmps96
 go_wp2_with fail
 rw [z20]
 generalize w.alloc (.cells (PL zeP).toArray 64) = W0 at *
 have HBC := yH (fun w' (h : Below W0.heap.size W0 w') => hbc w' (hw.trans (h.mono hw.size)))
 have HPC := yH (fun w' (h : Below W0.heap.size W0 w') => hpc w' (hw.trans (h.mono hw.size)))
 clear hbc hpc
 refine wp_flat_store (aD := ?aD1) (S := fun w' => Below W0.heap.size W0 w') (s := 16) (T := 64) (T' := 64) (g := w.heap.size) (z := PL zeP) (c := PL q) (x := .tmp 4) (y := .tmp 20)
  (vs := [(0, .pointer (some ⟨b, o, none⟩)), (1, .pointer (some ⟨b, o, none⟩)), (2, .int .i64 (B : Int)), (3, .int .i64 ((B / 8 : Nat) : Int)), (4, .pointer (some ⟨b, o, none⟩)), (5, .pointer (some ⟨b, o, none⟩)), (6, .pointer (some ⟨b, o + B / 8, none⟩)), (7, .int .u8 (c : Int)), (8, .int .i64 (B : Int)), (9, .int .i64 ((B % 8 : Nat) : Int)), (10, .int .u8 ((c / 2 ^ (B % 8) : Nat) : Int)), (11, .int .u8 ((c / 2 ^ (B % 8) % 16 : Nat) : Int)), (12, .pointer (some ⟨b, o, none⟩)), (13, .pointer (some ⟨b, o + 32, none⟩)), (14, .pointer (some ⟨b, o + 32 + 20 * (c / 2 ^ (B % 8) % 16), none⟩)), (15, .agg (PL q).toArray)]) (by kernel_rfl) ((Below.refl _ _).drew) (fun _ _ h k => S_trans h k) ?hD1 ?hk1 rfl rfl rfl rfl ?ea1 ?eb1 (fun w' h => hz.belowAll h) (pl_info _) (PL_sz _ _) (PL_one _) ?h1
 case hD1 =>
  refine .s 5 rfl (Gives.move (x := (.tmp 0)) rfl rfl) ?_
  refine .s 6 rfl (Gives.move (x := (.tmp 0)) rfl rfl) ?_
  refine .s 7 rfl (Gives.move (x := (.tmp 1)) rfl rfl) ?_
  refine .s 8 rfl (Gives.binop .quo 3 3 (.tmp 7) (.const (.int .i64 8)) rfl _ _ _ rfl rfl (fun w' => og_any _ _ (.inl rfl) _ _ _ _ w') (fun w' => of_quo B hB w')) ?_
  refine .s 9 rfl (Gives.nil (.tmp 6) rfl ⟨b, o, none⟩ rfl) ?_
  refine .s 10 rfl (Gives.fieldAt 98 (.tmp 9) 0 rfl _ _ rfl (fun w' => fs_0 _ _ w')) ?_
  refine .s 11 rfl (Gives.indexAt 22 (.tmp 10) (.tmp 8) rfl _ _ _ rfl rfl (fun w' => ix_by _ _ (B / 8) (by omega) w')) ?_
  refine .s 12 rfl (Gives.load 5 (.tmp 11) rfl _ _ rfl (fun w' h => ld_by (HBC.out w' h))) ?_
  refine .s 13 rfl (Gives.move (x := (.tmp 1)) rfl rfl) ?_
  refine .s 14 rfl (Gives.binop .rem 3 3 (.tmp 13) (.const (.int .i64 8)) rfl _ _ _ rfl rfl (fun w' => og_any _ _ (.inr (.inl rfl)) _ _ _ _ w') (fun w' => of_rem B hB w')) ?_
  refine .s 15 rfl (Gives.binop .shr 5 3 (.tmp 12) (.tmp 14) rfl _ _ _ rfl rfl (fun w' => og_any _ _ (.inr (.inr rfl)) _ _ _ _ w') (fun w' => of_shr c (B % 8) hc (by omega) w')) ?_
  refine .s 16 rfl (Gives.binop .rem 5 5 (.tmp 15) (.const (.int .u8 16)) rfl _ _ _ rfl rfl (fun w' => og_any _ _ (.inr (.inl rfl)) _ _ _ _ w') (fun w' => of_mod (c / 2 ^ (B % 8)) hcl w')) ?_
  refine .s 17 rfl (Gives.nil (.tmp 5) rfl ⟨b, o, none⟩ rfl) ?_
  refine .s 18 rfl (Gives.fieldAt 98 (.tmp 17) 1 rfl _ _ rfl (fun w' => fs_1 _ _ w')) ?_
  refine .s 19 rfl (Gives.indexAt 96 (.tmp 18) (.tmp 16) rfl _ _ _ rfl rfl (fun w' => ix_p8 _ _ (c / 2 ^ (B % 8) % 16) (by omega) w')) ?_
  refine .s 20 rfl (Gives.load_at 64 (.tmp 19) rfl ⟨b, o + 32 + 20 * (c / 2 ^ (B % 8) % 16), none⟩ rfl (PL q) _ (fun w' h => HPC.out w' h) Tryz.underlying64 rfl (pl_len _)) ?_
  exact .nil
 case hk1 => kernel_rfl
 case ea1 => rfl
 case eb1 => rfl
 case h1 =>
 intro W1 hb1
 have hgot := setRow_heap W1 w.heap.size _ (PL q).toArray _ _ (hz.belowAll hb1)
 have HGOT := yH hgot
 have HW := yH (hw.trans (hb1.mono hw.size))
 clear hgot hw hz hb1
 go_wp2_with fail
 refine bodyPost_ret (results_cell_row (by rfl) _ _ (w.heap.size) _ _ _ _ (by rfl) HGOT.out Tryz.underlying64 rfl (pl_info _)) rfl ?_
 exact ⟨rfl, below_setRow HW.out (Nat.le_refl _) _⟩
end
section
open Go.RowKit
def ShRd (w : World) (b : Nat) (l : List Shr) : Prop := b < w.heap.size ∧ ∀ (k : Nat) (s : Shr), l[k]? = some s → ∀ (j : Nat) (v : Value), (SH s.1 (tabP s.2))[j]? = some v → w.cell? ⟨b, 352 * k + j, none⟩ = some v
theorem ShRd.below {w w' : World} {b : Nat} {l : List Shr} (h : ShRd w b l) (hb : Below w.heap.size w w') : ShRd w' b l :=
 ⟨Nat.lt_of_lt_of_le h.1 hb.size, fun k s hs j v hv => (hb.cell (p := ⟨b, 352 * k + j, none⟩) h.1).trans (h.2 k s hs j v hv)⟩
theorem addS_take (m : Nat) (l : List Shr) (a : Pm) {j : Nat} {s : Shr} (hs : l[j]? = some s) : addS m (l.take (j + 1)) a = adP (addS m (l.take j) a) (digP s m) := by
 unfold addS
 rw [List.take_add_one, hs, List.foldl_append]
 rfl
def doN (a : Pm) : Nat → Pm
 | 0 => a
 | n + 1 => doP (doN a n)
theorem doN_ok {a : Pm} (h : a.ok) : ∀ n, (doN a n).ok := by
 intro n
 induction n with
 | zero => rw [doN]; exact h
 | succ n ih => rw [doN]; exact doP_ok ih
theorem doN_4 (a : Pm) : doN a 4 = do4 a := rfl
theorem doN_1 (a : Pm) (n : Nat) : doP (doN a n) = doN a (n + 1) := rfl
theorem ix_sh (b n cap k : Nat) (h : k < n) (w : World) : (Instr.indexAt 136 (.slice (some ⟨b, 0, none⟩) n cap) (.int .i64 (k : Int))).run Tryz.prog w = .ok (.pointer (some ⟨b, 352 * k, none⟩)) w := by
 have h1 : (0 : Int) ≤ (k : Int) := by omega
 have h2 : (k : Int) < (n : Int) := by omega
 have e : (⟨b, 0, none⟩ : Addr).add (k * 352) = ⟨b, 352 * k, none⟩ := by rw [Addr.add_mid, Nat.mul_comm, Nat.zero_add]
 go_simp
 try rw [e]
set_option maxHeartbeats 6400000 in
theorem to_any (l : List Shr) (hl : ∀ s ∈ l, s.2.ok) (b n cap : Nat) (hn : l.length = n) (hn9 : n ≤ 1000) (w : World) (hr : ShRd w b l) (hq : Gc w) :
  Calls Tryz.prog 58 #[.slice (some ⟨b, 0, none⟩) n cap] w fun e w' => e = .returned (.agg (PL (togP l)).toArray) ∧ Below w.heap.size w w' := by
 have HL := yH hl
 have HN := yH hn
 have HR := yH hr
 have HQ := yH hq
 have HTO := yH (togU_ok l hl)
 have hz := Row.new w (PL zeP) 64
 have hw := Below.alloc1 w (.cells (PL zeP).toArray 64)
 clear hl hn hr hq
 go_enter Tryz.func58, Tryz.ntmps58
 go_wp2_with fail
 rw [z20]
 generalize w.alloc (.cells (PL zeP).toArray 64) = W0 at *
 refine (ze_any _ (HQ.out.belowAll hw)).mono ?_
 rintro e W1 ⟨rfl, hb⟩
 replace hz := hz.belowAll hb
 replace hw := hw.trans (hb.mono hw.size)
 have hlz := hz.lt
 have e3 := Row.new W1 (PL zeP) 64
 have h3 := e3.setRow (PL ze1)
 replace hz := (hz.alloc (.cells (PL zeP).toArray 64)).setRowOther (k := W1.heap.size) (by omega) (PL ze1).toArray
 have hge := hw.size
 replace hw := below_setRow (g := W1.heap.size) (hw.alloc hge (.cells (PL zeP).toArray 64)) hge (PL ze1).toArray
 have E3 := yH e3
 clear e3 hb
 go_wp2_with (refine wpList_store_row rfl 64 (.tmp 3) (.tmp 6) rfl W1.heap.size _ rfl rfl 64 _ E3.out (pl_info _) (PL_sz _ _) (PL_one _) ?_)
 clear E3
 rw [z20]
 generalize (W1.alloc (.cells (PL zeP).toArray 64)).setRow W1.heap.size (PL ze1).toArray = V1 at *
 have HNE := yH (show w.heap.size ≠ W1.heap.size by omega)
 generalize W1.heap.size = g3 at *
 have HGE := yH hge
 have HZ := yH hz
 have H3 := yH h3
 have HW := yH hw
 clear hz h3 hw hge hlz
 go_loopw [4] (fun i wr => ∃ k : Nat, k ≤ 64 ∧ i = .int .i64 (252 - 4 * (k : Int)) ∧ Row wr w.heap.size 64 (PL zeP) ∧ Row wr g3 64 (PL (togU l k)) ∧ Below w.heap.size w wr) (fun i _ => (intOf i + 4).toNat)
 case atStart => exact ⟨0, by omega, rfl, HZ.out, H3.out, HW.out⟩
 case round =>
  obtain ⟨k, hk64, rfl, hz, h3, hw⟩ := hrel
  by_cases hk : k < 64
  ·obtain ⟨B, hB⟩ : ∃ B : Nat, B = 4 * (63 - k) := ⟨_, rfl⟩
   have hBi : (252 - 4 * (k : Int)) = (B : Int) := by omega
   rw [hBi]
   have hB0 : (0 : Int) ≤ (B : Int) := by omega
   have hB252 : (B : Int) ≤ 252 := by omega
   have HBI := yH hBi
   have HB := yH hB
   have hnext : togU l (k + 1) = addS (63 - k) l (do4 (togU l k)) := rfl
   have HNX := yH hnext
   have HOKU := yH (HTO.out k)
   clear hBi hB hnext
   generalize togU l k = u at *
   have HZ2 := yH hz
   have H32 := yH h3
   have HW2 := yH hw
   clear hz h3 hw HZ H3 HW
   go_wp2_with fail
   obtain ⟨wo, rfl⟩ : ∃ wo, wo = wr := ⟨_, rfl⟩
   go_loopw [11] (fun i wr => ∃ c : Nat, c ≤ 4 ∧ i = .int .i64 (c : Int) ∧ Row wr w.heap.size 64 (PL zeP) ∧ Row wr g3 64 (PL (doN u c)) ∧ Below w.heap.size w wr) (fun i _ => 4 - (intOf i).toNat)
   case atStart => exact ⟨0, by omega, rfl, HZ2.out, H32.out, HW2.out⟩
   case round =>
    obtain ⟨c, hc4, rfl, hz, h3, hw⟩ := hrel
    have bc0 : (0 : Int) ≤ (c : Int) := by omega
    by_cases hc : c < 4
    ·have hci : (c : Int) < 4 := by omega
     have hok := doN_ok HOKU.out c
     have hdo := fun wx hq => do_any hok wx hq
     rw [doN_1] at hdo
     obtain ⟨dn, hdn⟩ : ∃ dn, dn = doN u (c + 1) := ⟨_, rfl⟩
     rw [← hdn] at hdo
     have HDN := yH hdn
     clear hdn
     have HDO := yH hdo
     have HZ3 := yH hz
     have H33 := yH h3
     have HW3 := yH hw
     clear hdo hok hz h3 hw
     generalize doN u c = d0 at *
     go_wp2_with (refine wpList_load_row rfl 64 (.tmp 3) rfl g3 rfl 64 _ (0, 0) _ H33.out Tryz.underlying64 rfl (pl_info _) ?_)
     refine (HDO.out _ (HQ.out.belowAll HW3.out)).mono ?_
     rintro e W4 ⟨rfl, hb⟩
     have h34 := H33.out.belowAll hb
     have hz4 := (HZ3.out.belowAll hb).setRowOther (k := g3) HNE.out (PL dn).toArray
     have h35 := h34.setRow (PL dn)
     have hw4 := below_setRow (g := g3) (HW3.out.trans (hb.mono HW3.out.size)) HGE.out (PL dn).toArray
     have H34 := yH h34
     have H35 := yH h35
     have HZ4 := yH hz4
     have HW4 := yH hw4
     clear h34 hz4 h35 hw4 hb
     go_wp2_with (refine wpList_store_row rfl 64 (.tmp 3) (.tmp 14) rfl g3 _ rfl rfl 64 _ H34.out (pl_info _) (PL_sz _ _) (PL_one _) ?_)
     go_roundw
     case rel => exact ⟨c + 1, by omega, by go_num, HZ4.out, by rw [← HDN.out]; exact H35.out, HW4.out⟩
     case measure => simp [intOf] <;> omega
    ·obtain rfl : c = 4 := by omega
     rw [doN_4] at h3
     have HOK4 := yH (do4_ok HOKU.out)
     generalize do4 u = d4 at *
     have HZ3 := yH hz
     have H33 := yH h3
     have HW3 := yH hw
     clear hz h3 hw HZ2 H32 HW2
     go_wp2_with fail
     obtain ⟨wp, rfl⟩ : ∃ wp, wp = wr := ⟨_, rfl⟩
     go_loopw [18] (fun i wr => ∃ j : Nat, j ≤ n ∧ i = .int .i64 (j : Int) ∧ Row wr w.heap.size 64 (PL zeP) ∧ Row wr g3 64 (PL (addS (63 - k) (l.take j) d4)) ∧ Below w.heap.size w wr) (fun i _ => n - (intOf i).toNat)
     case atStart => exact ⟨0, by omega, rfl, HZ3.out, H33.out, HW3.out⟩
     case round =>
      obtain ⟨j, hjn, rfl, hz, h3, hw⟩ := hrel
      have bj0 : (0 : Int) ≤ (j : Int) := by omega
      by_cases hj : j < n
      ·have hji : (j : Int) < (n : Int) := by omega
       have hj9 : (j : Int) < 1000 := by omega
       have hjl : j < l.length := by rw [HN.out]; exact hj
       obtain ⟨s, hs⟩ : ∃ s, l[j]? = some s := ⟨l[j], List.getElem?_eq_getElem hjl⟩
       have hsk := HL.out s (List.mem_of_getElem? hs)
       have hak := addS_ok (63 - k) (l.take j) (fun t ht => HL.out t (List.mem_of_mem_take ht)) HOK4.out
       have hnext := addS_take (63 - k) l d4 hs
       have hdk : (digP s (63 - k)).ok := by unfold digP; exact tabP_ok hsk _
       have hadd := fun wx hq => ad_any hak hdk wx hq
       rw [← hnext] at hadd
       have hshr := HR.out.below hw
       have hcell : ∀ w', Below wr.heap.size wr w' → ∀ jj v, (SH s.1 (tabP s.2))[jj]? = some v → w'.cell? ⟨b, 352 * j + jj, none⟩ = some v := fun w' hb => (hshr.below hb).2 j s hs
       have hof := fun w' (hb : Below wr.heap.size wr w') => of_pt s.1 (tabP s.2) b (352 * j) (63 - k) B HB.out (by omega) w' (hcell w' hb) (Nat.lt_of_lt_of_le hshr.1 hb.size)
       have hdig : digP s (63 - k) = tabP s.2 (s.1 / 2 ^ (4 * (63 - k)) % 16) := rfl
       rw [← hdig] at hof
       obtain ⟨an, han⟩ : ∃ an, an = addS (63 - k) (l.take (j + 1)) d4 := ⟨_, rfl⟩
       rw [← han] at hadd
       have HAN := yH han
       have HOF := yH hof
       have HADD := yH hadd
       clear hjl hs hsk hnext hdk hshr hcell hdig han hof hadd hak
       generalize addS (63 - k) (l.take j) d4 = a0 at *
       generalize digP s (63 - k) = dg at *
       go_wp2_with fail
       refine wp_flat_store (aD := ?aD1) (S := fun w' => Below wr.heap.size wr w') (s := 7) (T := 64) (T' := 64) (g := g3) (z := PL a0) (c := PL an) (x := .tmp 3) (y := .tmp 27)
        (vs := [(0, .agg (PL a0).toArray), (1, .slice (some ⟨b, 0, none⟩) n cap), (2, .int .i64 (j : Int)), (3, .pointer (some ⟨b, 352 * j, none⟩)), (4, .int .i64 (B : Int)), (5, .agg (PL dg).toArray), (6, .agg (PL an).toArray)]) (by kernel_rfl) ((Below.refl _ _).drew) (fun _ _ h k => S_trans h k) ?hD1 ?hk1 rfl rfl rfl rfl ?ea1 ?eb1 (fun w' h => h3.belowAll h) (pl_info _) (PL_sz _ _) (PL_one _) ?h1
       case hD1 =>
        refine .s 21 rfl (Gives.l 64 (.tmp 3) g3 (fun w' h => h3.belowAll h) Tryz.underlying64 (pl_info _)) ?_
        refine .s 22 rfl (Gives.move (x := (.tmp 0)) rfl rfl) ?_
        refine .s 23 rfl (Gives.move (x := (.tmp 5)) rfl rfl) ?_
        refine .s 24 rfl (Gives.indexAt 136 (.tmp 22) (.tmp 23) rfl _ _ _ rfl rfl (fun w' => ix_sh b n cap j hj w')) ?_
        refine .s 25 rfl (Gives.move (x := (.tmp 4)) rfl rfl) ?_
        refine .s 26 rfl (Gives.c (args := [.pointer (some ⟨b, 352 * j, none⟩), .int .i64 (B : Int)]) rfl Tryz.func96 (fun w' h => HOF.out w' h)) ?_
        refine .s 27 rfl (Gives.c (args := [.agg (PL a0).toArray, .agg (PL dg).toArray]) rfl Tryz.func95 (fun w' h => HADD.out w' ((HQ.out.belowAll hw).belowAll h))) ?_
        exact .nil
       case hk1 => kernel_rfl
       case ea1 => rfl
       case eb1 => rfl
       case h1 =>
       intro W5 hb
       have hz4 := (hz.belowAll hb).setRowOther (k := g3) HNE.out (PL an).toArray
       have h35 := (h3.belowAll hb).setRow (PL an)
       have hw4 := below_setRow (g := g3) (hw.trans (hb.mono hw.size)) HGE.out (PL an).toArray
       have H35 := yH h35
       have HZ4 := yH hz4
       have HW4 := yH hw4
       clear hz h3 hw hz4 h35 hw4 hb
       go_wp2_with fail
       go_roundw
       case rel => exact ⟨j + 1, by omega, by go_num, HZ4.out, by rw [← HAN.out]; exact H35.out, HW4.out⟩
       case measure => simp [intOf] <;> omega
      ·obtain rfl : j = n := by omega
       rw [List.take_of_length_le (by rw [HN.out]; exact Nat.le_refl _), ← HNX.out] at h3
       have HZ4 := yH hz
       have H34 := yH h3
       have HW4 := yH hw
       clear hz h3 hw
       go_wp2_with fail
       go_roundw
       case rel => exact ⟨k + 1, by omega, by have := HB.out; have := HBI.out; congr 1; omega, HZ4.out, H34.out, HW4.out⟩
       case measure => simp [intOf] <;> omega
  ·obtain rfl : k = 64 := by omega
   rw [show (252 - 4 * ((64 : Nat) : Int)) = -4 by decide]
   have hgot := setRow_heap _ w.heap.size _ (PL (togU l 64)).toArray _ _ hz
   have HGOT := yH hgot
   have HZ4 := yH hz
   have H34 := yH h3
   have HW4 := yH hw
   clear hgot hz h3 hw
   go_wp2_with (first
    | (refine wpList_load_row rfl 64 (.tmp 3) rfl g3 rfl 64 _ (0, 0) _ H34.out Tryz.underlying64 rfl (pl_info _) ?_)
    | (refine wpList_store_row rfl 64 (.tmp 2) (.tmp 29) rfl w.heap.size _ rfl rfl 64 _ HZ4.out (pl_info _) (PL_sz _ _) (PL_one _) ?_))
   refine bodyPost_ret (results_cell_row (by rfl) _ _ w.heap.size _ _ _ _ (by rfl) HGOT.out Tryz.underlying64 rfl (pl_info _)) rfl ?_
   exact ⟨rfl, below_setRow HW4.out (Nat.le_refl _) _⟩
end
section
open Go.RowKit
def sideS (l : List Shr) : List Value := l.flatMap fun s => SH s.1 (tabP s.2)
theorem sideS_get : ∀ (l : List Shr) (k : Nat) (s : Shr) (j : Nat), l[k]? = some s → j < 352 → (sideS l)[352 * k + j]? = (SH s.1 (tabP s.2))[j]?
 | [], k, s, j, h, _ => by simp at h
 | t :: l, 0, s, j, h, hj => by
  obtain rfl : t = s := by simpa using h
  show (SH t.1 (tabP t.2) ++ sideS l)[352 * 0 + j]? = _
  rw [Nat.mul_zero, Nat.zero_add, List.getElem?_append_left (by rw [SH_length]; exact hj)]
 | t :: l, k + 1, s, j, h, hj => by
  have ih := sideS_get l k s j (by simpa using h) hj
  show (SH t.1 (tabP t.2) ++ sideS l)[352 * (k + 1) + j]? = _
  rw [List.getElem?_append_right (by rw [SH_length]; omega), SH_length, show 352 * (k + 1) + j - 352 = 352 * k + j by omega, ih]
theorem sideS_rd (w : World) (l : List Shr) (T : TypeId) : ShRd (w.alloc (.cells (sideS l).toArray T)) w.heap.size l := by
 refine ⟨by simp, fun k s hs j v hv => ?_⟩
 have hj : j < 352 := by
  have := (List.getElem?_eq_some_iff.1 hv).1
  rwa [SH_length] at this
 have hr : Row (w.alloc (.cells (sideS l).toArray T)) w.heap.size T (sideS l) := Row.new w (sideS l) T
 refine hr.cell ?_
 rw [sideS_get l k s j hs hj]
 exact hv
theorem fill_shs (len : Nat) (l : List Shr) (hlen : len = l.length) (parts : List (Nat × Value)) (hp : parts = ((l.map fun s => Value.agg (SH s.1 (tabP s.2)).toArray).zipIdx 0).map fun x => (x.2, x.1)) (z : Value) :
  Instr.fill (fun i => some (i * 352, 352)) ((Array.range (len * 352)).map (z.cells[· % z.cells.size]!)) parts = some (sideS l).toArray := by
 rw [hp]
 have hw := Great.fill_whole (s := 352) (by decide) (l.map fun s => Value.agg (SH s.1 (tabP s.2)).toArray) ((Array.range (len * 352)).map (z.cells[· % z.cells.size]!)) (fun v hv => by
  obtain ⟨s, _, rfl⟩ := List.mem_map.1 hv
  show (SH s.1 (tabP s.2)).toArray.size = 352
  rw [List.size_toArray, SH_length]) (by simp [hlen])
 rw [hw]
 congr 2
 unfold sideS
 rw [List.flatMap_map]
 rfl
theorem sh_inf : ((Tryz.prog.info? 98).map fun i => (i.zero.isSome, i.size)) = some (true, 352) := by kernel_rfl
theorem wp_buildShs {o : Oper} {a : Act} {w : World} {K : Act → World → Prop} {Q : Exit → Act → World → Prop} (len : Nat) (parts : Array (Nat × Operand)) (ho : o.op = .buildSlice 136 len parts)
  (l : List Shr) (hlen : len = l.length) (hpos : 0 < len) (hsm : len < 1000) (hp : (parts.toList.map fun y => (y.1, a.eval y.2)) = ((l.map fun s => Value.agg (SH s.1 (tabP s.2)).toArray).zipIdx 0).map fun x => (x.2, x.1))
  (h : K (a.put o.dst (.slice (some ⟨w.heap.size, 0, none⟩) len len)) (w.alloc (.cells (sideS l).toArray 98))) : o.wp Tryz.prog a w K Q := by
 obtain ⟨ie, hie, hz⟩ := Option.map_eq_some_iff.1 sh_inf
 simp only [Prod.mk.injEq] at hz
 obtain ⟨z, hzz⟩ := Option.isSome_iff_exists.1 hz.1
 refine wp_buildSlice 136 98 len parts ho (sideS l).toArray ie z Tryz.underlying136 hie hzz (by rw [hz.2]; omega) (by rw [hz.2]; omega) ?_ h
 rw [Array.toList_map, show (parts.toList.map fun (i, x) => (i, a.eval x)) = (parts.toList.map fun y => (y.1, a.eval y.2)) from rfl, hp, hz.2]
 exact fill_shs len l hlen _ rfl z
theorem wpList_buildShs {ops : Array Oper} {rest : List Oper} {o : Oper} {a : Act} {w : World} {Q : Exit → Act → World → Prop} (hg : o.guard = none) (len : Nat) (parts : Array (Nat × Operand)) (ho : o.op = .buildSlice 136 len parts)
  (l : List Shr) (hlen : len = l.length) (hpos : 0 < len) (hsm : len < 1000) (hp : (parts.toList.map fun y => (y.1, a.eval y.2)) = ((l.map fun s => Value.agg (SH s.1 (tabP s.2)).toArray).zipIdx 0).map fun x => (x.2, x.1))
  (h : wpList Tryz.prog ops Q rest (a.put o.dst (.slice (some ⟨w.heap.size, 0, none⟩) len len)) (w.alloc (.cells (sideS l).toArray 98))) : wpList Tryz.prog ops Q (o :: rest) a w :=
 wpList_plain hg fun _ hK => wp_buildShs len parts ho l hlen hpos hsm hp (hK _ _ h)
def muP (p : Pm) (N : Nat) : Pm := togP [(N, p)]
theorem muP_ok {p : Pm} (h : p.ok) (N : Nat) : (muP p N).ok := togU_ok _ (fun s hs => by rw [List.mem_singleton.1 hs]; exact h) _
def boP (p : Pm) (N M : Nat) : Pm := togP [(N, p), (M, baP)]
theorem boP_ok {p : Pm} (h : p.ok) (N M : Nat) : (boP p N M).ok := togU_ok _ (fun s hs => by
 rcases List.mem_cons.1 hs with rfl | hs
 ·exact h
 ·rw [List.mem_singleton.1 hs]; exact baP_ok) _
set_option maxHeartbeats 3200000 in
theorem mu_any {p : Pm} (hp : p.ok) (N : Nat) (w : World) (hq : Gc w) :
  Calls Tryz.prog 24 #[.agg (PL p).toArray, .agg (By N 32).toArray] w fun e w' => e = .returned (.agg (PL (muP p N)).toArray) ∧ Below w.heap.size w w' := by
 have hb0 := ((Row.new w (PL p) 64).alloc (.cells (By N 32).toArray 22)).alloc (.cells (PL zeP).toArray 64)
 have hb1 := (Row.new1 w (.cells (PL p).toArray 64) (By N 32) 22).alloc (.cells (PL zeP).toArray 64)
 have hz := Row.new2 w (.cells (PL p).toArray 64) (.cells (By N 32).toArray 22) (PL zeP) 64
 have hw := Below.alloc3 w (.cells (PL p).toArray 64) (.cells (By N 32).toArray 22) (.cells (PL zeP).toArray 64)
 have HB0 := yH hb0
 have HB1 := yH hb1
 clear hb0 hb1
 go_enter Tryz.func24, Tryz.ntmps24
 go_wp2_with (first
  | (refine wpList_load_row rfl 64 (.tmp 2) rfl w.heap.size rfl 64 _ (0, 0) _ HB0.out Tryz.underlying64 rfl (pl_info _) ?_)
  | (refine wpList_load_row rfl 22 (.tmp 3) rfl (w.heap.size + 1) rfl 22 _ (0, 0) _ HB1.out Tryz.underlying22 rfl (by_info _) ?_))
 clear HB0 HB1
 refine (so_any N hp _ (hq.belowAll hw)).mono ?_
 rintro e W1 ⟨rfl, hb⟩
 replace hz := hz.belowAll hb
 replace hw := hw.trans (hb.mono hw.size)
 clear hb
 have hrd := sideS_rd W1 [(N, p)] 98
 replace hz := hz.alloc (.cells (sideS [(N, p)]).toArray 98)
 replace hw := hw.alloc hw.size (.cells (sideS [(N, p)]).toArray 98)
 have hto := fun wx hr hq => to_any [(N, p)] (fun s hs => by rw [List.mem_singleton.1 hs]; exact hp) W1.heap.size 1 1 rfl (by decide) wx hr hq
 have HTO := yH hto
 clear hto
 go_wp2_with (refine wpList_buildShs rfl 1 #[(0, .tmp 7)] rfl [(N, p)] rfl (by decide) (by decide) rfl ?_)
 refine (HTO.out _ hrd (hq.belowAll hw)).mono ?_
 rintro e W2 ⟨rfl, hb⟩
 replace hz := hz.belowAll hb
 replace hw := hw.trans (hb.mono hw.size)
 clear hb hrd
 have hgot := setRow_heap _ (w.heap.size + 1 + 1) _ (PL (muP p N)).toArray _ _ hz
 have HGOT := yH hgot
 have HZ := yH hz
 have HW := yH hw
 clear hgot hz hw
 go_wp2_with (refine wpList_store_row rfl 64 (.tmp 4) (.tmp 9) rfl (w.heap.size + 1 + 1) _ rfl rfl 64 _ HZ.out (pl_info _) (PL_sz _ _) (PL_one _) ?_)
 refine bodyPost_ret (results_cell_row (by rfl) _ _ (w.heap.size + 1 + 1) _ _ _ _ (by rfl) HGOT.out Tryz.underlying64 rfl (pl_info _)) rfl ?_
 exact ⟨rfl, below_setRow HW.out (by omega) _⟩
theorem wp_flat_three {P : Program} {ops : Array Oper} {Q : Exit → Act → World → Prop} {S : World → Prop} {id : Nat} {vs : List (Nat × Value)} {a0 aD : Act} {w0 : World} {s1 s2 s3 : Nat} {o1 o2 o3 : Oper} (hm : P.follows .mixedOrders = true) (hS : S w0.drew)
  (hSB : ∀ w w', S w → Below w.heap.size w w' → S w') (hD : Dets P ops S vs a0 aD)
  (hk : (detsOk ops [] (vs.map (·.1)) && lateOk ops (vs.map (·.1)) [s1, s2, s3] && dstsIn ops a0.tmps.size && Region.noSelect ops && (cnt ops (lateL ops [s1, s2, s3]) == 3) && (Region.ready .any ops (lateL ops [s1, s2, s3]) == [s1])
   && (Region.ready .any ops ((lateL ops [s1, s2, s3]).setIfInBounds s1 true) == [s2]) && (Region.ready .any ops (((lateL ops [s1, s2, s3]).setIfInBounds s1 true).setIfInBounds s2 true) == [s3]) && (Region.ready .any ops ((((lateL ops [s1, s2, s3]).setIfInBounds s1 true).setIfInBounds s2 true).setIfInBounds s3 true) == [])) = true)
  (h1 : ops[s1]? = some o1) (h2 : ops[s2]? = some o2) (h3 : ops[s3]? = some o3) (g1 : o1.guard = none) (g2 : o2.guard = none) (g3 : o3.guard = none)
  (hend : ∀ w, S w → o1.wp P aD w (fun a1 w1 => o2.wp P a1 w1 (fun a2 w2 => o3.wp P a2 w2 (fun a3 w3 => Q .normal a3 w3) Q) Q) Q) : (Code.region id ops true).wp P Q a0 w0 := by
 simp only [Bool.and_eq_true, beq_iff_eq] at hk
 obtain ⟨⟨⟨⟨⟨⟨⟨⟨k1, k3⟩, k4⟩, k5⟩, k6⟩, r0⟩, r1⟩, r2⟩, r3⟩ := hk
 have e1 : s1 < ops.size := (Array.getElem?_eq_some_iff.1 h1).1
 have e2 : s2 < ops.size := (Array.getElem?_eq_some_iff.1 h2).1
 have e3 : s3 < ops.size := (Array.getElem?_eq_some_iff.1 h3).1
 have hone : ∀ (k : Nat) (o : Oper) (a : Act) (w : World) (K : Act → World → Prop), ops[k]? = some o → o.guard = none → o.wp P a w K Q → wpOp P ops Q k K a w := fun k o a w K ho hg h => by
  unfold wpOp
  simp only [ho]
  rw [if_pos (by simp [Region.wanted, hg])]
  exact .inl h
 refine wp_flat (B := 0) (made := []) (late := [s1, s2, s3]) hm hS hD (fun m h => by cases h) k1 rfl (by simpa using k3) k4 k5 k6 (by simp [e1, e2, e3]) hSB (fun _ _ => Nat.zero_le _) fun _ w hS' _ _ => ?_
 show wpAny P .any ops Q 3 (lateL ops [s1, s2, s3]) aD w
 refine ⟨fun e => (by rw [r0] at e; cases e), fun i hmem => ?_⟩
 rw [r0] at hmem
 obtain rfl := List.mem_singleton.1 hmem
 refine hone i o1 _ _ _ h1 g1 (Oper.wp_mono (fun a1 w1 hh => ?_) (hend w hS'))
 refine ⟨fun e => (by rw [r1] at e; cases e), fun j hj => ?_⟩
 rw [r1] at hj
 obtain rfl := List.mem_singleton.1 hj
 refine hone j o2 _ _ _ h2 g2 (Oper.wp_mono (fun a2 w2 hh => ?_) hh)
 refine ⟨fun e => (by rw [r2] at e; cases e), fun k hk => ?_⟩
 rw [r2] at hk
 obtain rfl := List.mem_singleton.1 hk
 exact hone k o3 _ _ _ h3 g3 (Oper.wp_mono (fun a3 w3 hh => ⟨r3, hh⟩) hh)
set_option maxHeartbeats 3200000 in
theorem bo_any {p : Pm} (hp : p.ok) (N M : Nat) (w : World) (hq : Gc w) :
  Calls Tryz.prog 43 #[.agg (By N 32).toArray, .agg (PL p).toArray, .agg (By M 32).toArray] w fun e w' => e = .returned (.agg (PL (boP p N M)).toArray) ∧ Below w.heap.size w w' := by
 have hb0 := (((Row.new w (By N 32) 22).alloc (.cells (PL p).toArray 64)).alloc (.cells (By M 32).toArray 22)).alloc (.cells (PL zeP).toArray 64)
 have hb1 := ((Row.new1 w (.cells (By N 32).toArray 22) (PL p) 64).alloc (.cells (By M 32).toArray 22)).alloc (.cells (PL zeP).toArray 64)
 have hb2 := (Row.new2 w (.cells (By N 32).toArray 22) (.cells (PL p).toArray 64) (By M 32) 22).alloc (.cells (PL zeP).toArray 64)
 have hz := Row.new3 w (.cells (By N 32).toArray 22) (.cells (PL p).toArray 64) (.cells (By M 32).toArray 22) (PL zeP) 64
 have hw := Below.alloc4 w (.cells (By N 32).toArray 22) (.cells (PL p).toArray 64) (.cells (By M 32).toArray 22) (.cells (PL zeP).toArray 64)
 have hlok : ∀ s ∈ [((N, p) : Shr), (M, baP)], s.2.ok := fun s hs => by
  rcases List.mem_cons.1 hs with rfl | hs
  ·exact hp
  ·rw [List.mem_singleton.1 hs]; exact baP_ok
 go_enter Tryz.func43, Tryz.ntmps43
 go_wp2_with fail
 rw [z20]
 generalize (((w.alloc (.cells (By N 32).toArray 22)).alloc (.cells (PL p).toArray 64)).alloc (.cells (By M 32).toArray 22)).alloc (.cells (PL zeP).toArray 64) = W0 at *
 refine wp_flat_three (aD := ?aD1) (S := fun w' => Below W0.heap.size W0 w') (s1 := 6) (s2 := 7) (s3 := 8)
  (vs := [(0, .agg (By N 32).toArray), (1, .agg (PL p).toArray), (2, .agg (SH N (tabP p)).toArray), (3, .agg (By M 32).toArray), (4, .agg (PL baP).toArray), (5, .agg (SH M (tabP baP)).toArray)]) (by kernel_rfl) ((Below.refl _ _).drew) (fun _ _ h k => S_trans h k) ?hD1 ?hk1 rfl rfl rfl rfl rfl rfl ?h1
 case hD1 =>
  refine .s 7 rfl (Gives.l 22 (.tmp 3) w.heap.size (fun w' h => hb0.belowAll h) Tryz.underlying22 (by_info _)) ?_
  refine .s 8 rfl (Gives.l 64 (.tmp 4) (w.heap.size + 1) (fun w' h => hb1.belowAll h) Tryz.underlying64 (pl_info _)) ?_
  refine .s 9 rfl (Gives.c (args := [.agg (By N 32).toArray, .agg (PL p).toArray]) rfl Tryz.func59 (fun w' h => so_any N hp w' ((hq.belowAll hw).belowAll h))) ?_
  refine .s 10 rfl (Gives.l 22 (.tmp 5) (w.heap.size + 1 + 1) (fun w' h => hb2.belowAll h) Tryz.underlying22 (by_info _)) ?_
  refine .s 11 rfl (Gives.c (args := []) rfl Tryz.func23 (fun w' h => ba_any w' ((hq.belowAll hw).belowAll h))) ?_
  refine .s 12 rfl (Gives.c (args := [.agg (By M 32).toArray, .agg (PL baP).toArray]) rfl Tryz.func59 (fun w' h => so_any M baP_ok w' ((hq.belowAll hw).belowAll h))) ?_
  exact .nil
 case hk1 => kernel_rfl
 case h1 =>
 intro W1 hb
 replace hz := hz.belowAll hb
 replace hw := hw.trans (hb.mono hw.size)
 clear hb hb0 hb1 hb2
 have hrd := sideS_rd W1 [(N, p), (M, baP)] 98
 replace hz := hz.alloc (.cells (sideS [(N, p), (M, baP)]).toArray 98)
 replace hw := hw.alloc hw.size (.cells (sideS [(N, p), (M, baP)]).toArray 98)
 refine wp_buildShs 2 #[(0, .tmp 9), (1, .tmp 12)] rfl [(N, p), (M, baP)] rfl (by decide) (by decide) rfl ?_
 refine wp_call (args := [.slice (some ⟨W1.heap.size, 0, none⟩) 2 2]) (v := .agg (PL (boP p N M)).toArray) rfl Tryz.func58 (by kernel_rfl) (by kernel_rfl) rfl (to_any [(N, p), (M, baP)] hlok W1.heap.size 2 2 rfl (by decide) _ hrd (hq.belowAll hw)) ?_
 intro W2 hb
 replace hz := hz.belowAll hb
 replace hw := hw.trans (hb.mono hw.size)
 refine wp_store_row 64 (.tmp 6) (.tmp 14) rfl (w.heap.size + 1 + 1 + 1) (PL (boP p N M)).toArray rfl rfl 64 _ hz (pl_info _) (PL_sz _ _) (PL_one _) ?_
 have hgot := setRow_heap _ (w.heap.size + 1 + 1 + 1) _ (PL (boP p N M)).toArray _ _ hz
 have HGOT := yH hgot
 have HW := yH hw
 clear hgot hz hw hb hrd hlok
 go_wp2_with fail
 refine bodyPost_ret (results_cell_row (by rfl) _ _ (w.heap.size + 1 + 1 + 1) _ _ _ _ (by rfl) HGOT.out Tryz.underlying64 rfl (pl_info _)) rfl ?_
 exact ⟨rfl, below_setRow HW.out (by omega) _⟩
end
end
end Go.Proofs.YtnpjecdodhkplaaGreatDoor
