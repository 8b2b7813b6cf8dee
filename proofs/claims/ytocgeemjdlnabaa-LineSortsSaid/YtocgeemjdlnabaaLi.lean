/- line.Sort. -/
import Derived.Test.YtocgeemjdlnabaaLh
import Derived.Test.YtocgeemjdlnabaaShelf
import Derived.Laws.AppendOwn
import Derived.Lib.SliceRun
namespace Go.Proofs.Ytocgeemjdlnabaa
set_option maxRecDepth 100000
set_option linter.unusedSimpArgs false
set_option linter.unusedVariables false
open Go.RowKit


theorem lt_cfM (a b : Mk) : ltOf Mk.cf a b = decide (Mk.n a < Mk.n b) := Mk.cf_lt a b
theorem swo_hsM : Sort.SWO (ltOf Mk.cf) where
  irrefl x := by rw [lt_cfM]; simp
  trans x y z h1 h2 := by rw [lt_cfM] at *; simp at *; omega
  ntrans x y z h1 h2 := by rw [lt_cfM] at *; simp at *; omega
theorem tot_hsM (x y : Mk) (h1 : ltOf Mk.cf x y = false) (h2 : ltOf Mk.cf y x = false) : x = y := by
  rw [lt_cfM] at *
  simp at h1 h2
  exact Mk.n_inj (by omega)
/-- Names in order. -/
def SrtM (D : List Mk) : List Mk := D.mergeSort fun x y => !(ltOf Mk.cf) y x
theorem Srt_lenM (D : List Mk) : (SrtM D).length = D.length := List.length_mergeSort D
theorem Srt_memM (D : List Mk) (x : Mk) : x ∈ SrtM D ↔ x ∈ D := List.mem_mergeSort
theorem Srt_ascM (D : List Mk) : (SrtM D).Pairwise fun a b => Mk.n a ≤ Mk.n b := by
  have h := List.pairwise_mergeSort (le := fun x y : Mk => !(ltOf Mk.cf) y x) (fun a b c h1 h2 => by
    simp only [lt_cfM] at *; simp at *; omega) (fun a b => by
    simp only [lt_cfM]; simp; omega) D
  refine h.imp fun {a b} h => ?_
  simp only [lt_cfM] at h
  simpa using h
theorem cmp_laysM (blk off size : Nat) (w : World) : CmpLays Try.prog 24 #[] Mk.c 33 Mk.cf blk off size w := fun _ _ _ _ x y => compare_anyM x y _
theorem flatK_eqM (D : List Mk) : Go.Sort.flatK Mk.c 33 D.toArray = (flatM D).toArray := by
  apply Array.ext_getElem?
  intro t
  by_cases ht : t < D.length * 33
  · have h1 : t < (Go.Sort.flatK Mk.c 33 D.toArray).size := by simpa using ht
    have hi : t / 33 < D.length := by omega
    have hj : t % 33 < 33 := Nat.mod_lt _ (by omega)
    have h2 := Go.Sort.get_flatK Mk.c 33 D.toArray t (by simpa using ht)
    rw [getElem!_pos _ t h1] at h2
    rw [Array.getElem?_eq_getElem h1, h2]
    have h3 : D.toArray[t / 33]! = D[t / 33] := by rw [getElem!_pos D.toArray (t / 33) (by simpa using hi)]; simp
    have hc : t % 33 < (D[t / 33]).c.length := by rw [(D[t / 33]).c_len]; exact hj
    have h4 := flat_atM (d := D) (i := t / 33) (x := D[t / 33]) (List.getElem?_eq_getElem hi) [] (j := t % 33) (v := (D[t / 33]).c[t % 33]) (List.getElem?_eq_getElem hc)
    rw [List.append_nil, show t / 33 * 33 + t % 33 = t by omega] at h4
    rw [List.getElem?_toArray, h4, h3, getElem!_pos (D[t / 33]).c (t % 33) hc]
  · rw [Array.getElem?_eq_none (by simp; omega), Array.getElem?_eq_none (by simp [flat_lengthM]; omega)]
theorem holds_flatM {w : World} {g : Nat} {T : TypeId} {D : List Mk} {R : List Value} (h : Row w g T (flatM D ++ R)) : Go.Sort.HoldsK Mk.c 33 w g 0 D.toArray := by
  unfold Go.Sort.HoldsK
  rw [flatK_eqM]
  intro j hj
  have hj' : j < (flatM D).length := by simpa using hj
  refine ⟨h.cell ?_, h.free _⟩
  rw [Nat.zero_add, List.getElem?_append_left hj', getElem!_pos _ j hj, List.getElem?_eq_getElem hj']
  simp
theorem put_rowM {w : World} {g : Nat} {T : TypeId} {A R : List Value} (F : List Value) (hF : F.length = A.length) (h : Row w g T (A ++ R)) : Row (Sort.putRow id w g 0 F.toArray) g T (F ++ R) := by
  unfold Row at h ⊢
  show (w.heap.modify g _)[g]? = _
  rw [Array.getElem?_modify, if_pos rfl, h]
  simp only [Option.map_some, Sort.onCells]
  congr 2
  apply Array.ext_getElem?
  intro k
  simp only [Sort.putCells, Array.getElem?_mapIdx, List.getElem?_toArray]
  by_cases hk : k < F.length
  · rw [List.getElem?_append_left (by omega), List.getElem?_append_left hk, List.getElem?_eq_getElem (by omega), List.getElem?_eq_getElem hk, Option.map_some, if_pos ⟨by omega, by simp; omega⟩]
    rw [Nat.sub_zero, getElem!_pos _ k (by simpa using hk)]
    simp
  · rw [List.getElem?_append_right (by omega), List.getElem?_append_right (by omega), hF]
    cases R[k - A.length]? with
    | none => rfl
    | some y => rw [Option.map_some, if_neg (by simp; omega)]
theorem sort_rowM {w : World} {g n : Nat} {os : Array Obj} {T : TypeId} {D : List Mk} {R : List Value} (h : Row w g T (flatM D ++ R)) : Row (sortWorldK Mk.c 33 w g 0 n (SrtM D).toArray os) g T (flatM (SrtM D) ++ R) ∧ Only (fun k => k = g) w (sortWorldK Mk.c 33 w g 0 n (SrtM D).toArray os) := by
  have h0 : Row (Sort.ahead w n) g T (flatM D ++ R) := h
  have h1 := put_rowM (flatM (SrtM D)) (by rw [flat_lengthM, flat_lengthM, Srt_lenM]) h0
  have e : sortWorldK Mk.c 33 w g 0 n (SrtM D).toArray os = Sort.grow (Sort.putRow id (Sort.ahead w n) g 0 (flatM (SrtM D)).toArray) os := by
    unfold sortWorldK Go.Sort.putRowK
    rw [flatK_eqM]
  rw [e]
  have hsz : (Sort.putRow id (Sort.ahead w n) g 0 (flatM (SrtM D)).toArray).heap.size = w.heap.size := by rw [Sort.size_putRow]; rfl
  refine ⟨(Sort.heap_grow_old _ os h1.lt).trans h1, rfl, rfl, rfl, ?_, fun k hk hne => ?_⟩
  · show w.heap.size ≤ (_ ++ os).size
    rw [Array.size_append, hsz]; omega
  · rw [Sort.heap_grow_old _ os (by rw [hsz]; exact hk)]
    show (w.heap.modify g _)[k]? = _
    rw [Array.getElem?_modify, if_neg (fun e => hne e.symm)]

set_option maxHeartbeats 1600000 in
theorem sort_anyM (A : Option Addr) (n c : Nat) (D : List Mk) (w : World) (hr : RdHM w A n D) (hn : n ≤ 1000000) :
    Calls Try.prog 11 #[.slice A n c] w fun e w' => ∃ v, e = .returned v ∧ w'.ownsRow w.heap.size 26 33 v (dnM (SrtM D) n).length (flatM (dnM (SrtM D) n)) ∧ Below w.heap.size w w' := by
  have hDn := hr.1
  rcases Nat.eq_zero_or_pos n with h0 | h0
  · subst h0
    have hD : D = [] := List.length_eq_zero_iff.1 hDn
    subst hD
    have HSF := fun p cap fv w => AnyF.slices_SortFunc_none sortH p cap fv w
    change ∀ (p : Option Addr) (cap : Nat) (fv : Value) (w : World), Calls Try.prog 23 _ _ _ at HSF
    have HSF := Lib.hid HSF
    have hcl : Calls Try.prog 22 #[.slice A 0 c] w fun e w' => ∃ p c', e = .returned (.slice p 0 c') ∧ w'.ownsRow w.heap.size 26 33 (.slice p 0 c') 0 [] ∧ Below w.heap.size w w' := by
      cases A with
      | none =>
        refine (hclone_nilM 0 c w).mono ?_
        rintro e w' ⟨rfl, rfl⟩
        exact ⟨none, 0, rfl, ⟨rfl, Or.inl ⟨rfl, rfl⟩⟩, Below.refl _ _⟩
      | some ad =>
        refine (hclone_anyM ad 0 c [] w rfl (by omega) (by simp) (by simp)).mono ?_
        rintro e w' ⟨v', rfl, ho, hb⟩
        rcases ho.2 with ⟨rfl, _⟩ | ⟨g, cap, cur, rfl, h⟩
        · exact ⟨none, 0, rfl, ho, hb⟩
        · exact ⟨_, cap, rfl, ho, hb⟩
    have HCL := Lib.hid hcl
    clear hcl hr hDn
    go_enter Try.func11, Try.ntmps11
    go_wp2_with fail
    refine HCL.out.mono ?_
    rintro e W1 ⟨p, c', rfl, ho, hb⟩
    have HO := Lib.hid ho
    have HB := Lib.hid hb
    clear ho hb
    go_wp2_with fail
    refine (HSF.out _ _ _ _).mono ?_
    rintro e W2 ⟨rfl, rfl⟩
    go_wp2_with fail
    refine (compact_0M _ _ _).mono ?_
    rintro e W3 ⟨rfl, rfl⟩
    go_wp2_with fail
    go_ret
    exact ⟨_, rfl, HO.out, HB.out⟩
  · obtain ⟨ad, rfl, hlt, hcells⟩ := hr.2 h0
    have HCL := Lib.hid (hclone_anyM ad n c (flatM D) w (by rw [flat_lengthM, hDn]) hn hcells (flat_oneM D))
    have eg : ∀ args w, (callFunc 24 args).run Try.prog w = .ok (.enter 24 args) w := enters_of Try.func24 (by kernel_rfl) rfl
    have hsort : ∀ (g cap : Nat) (R : List Value) (w1 : World), Row w1 g 26 (flatM D ++ R) → Calls Try.prog 23 #[.slice (some ⟨g, 0, none⟩) n cap, .func (.func 24) #[] #[]] w1 fun e w' => e = .returned (.tuple #[]) ∧ Row w' g 26 (flatM (SrtM D) ++ R) ∧ Only (fun k => k = g) w1 w' := by
      intro g cap R w1 hrow
      have h := AnyQ.slices_SortFunc_total sortH 33 Try.isAgg26 Try.sizeOf26 Mk.c Mk.c_len Mk.c_one Mk.cf swo_hsM 24 #[] g 0 cap D.toArray w1 eg (cmp_laysM g 0 _ w1) (holds_flatM hrow) hrow.lt (by simp; omega) tot_hsM
      change Calls Try.prog 23 _ _ _ at h
      have hsz : D.toArray.size = n := by simp [hDn]
      rw [hsz] at h
      refine h.mono ?_
      rintro e w' ⟨rfl, m, os, rfl⟩
      exact ⟨rfl, sort_rowM hrow⟩
    have HSF := Lib.hid hsort
    clear hsort hcells eg hr
    go_enter Try.func11, Try.ntmps11
    go_wp2_with fail
    refine HCL.out.mono ?_
    rintro e W1 ⟨v', rfl, ho, hb⟩
    obtain ⟨g, cap, R, rfl, hbg, hrow, hnc, hcm, hlen⟩ := own_rowM ho h0
    have HROW := Lib.hid hrow
    have HB := Lib.hid hb
    clear ho hb hrow
    go_wp2_with fail
    refine (HSF.out g cap R W1 HROW.out).mono ?_
    rintro e W2 ⟨rfl, hrow2, hon2⟩
    have HROW2 := Lib.hid hrow2
    have HB2 := Lib.hid (HB.out.trans (hon2.below HB.out.size fun k e => by subst e; exact hbg))
    clear hrow2 hon2
    go_wp2_with fail
    refine (compact_anyM (SrtM D) R g n cap W2 HROW2.out (by rw [Srt_lenM, hDn]) hnc hcm h0 (by omega)).mono ?_
    rintro e W3 ⟨rfl, ⟨R', hrow3, hlen3⟩, hon3⟩
    have hfl : (flatM (SrtM D) ++ R).length = cap * 33 := by
      rw [← hlen, List.length_append, List.length_append, flat_lengthM, flat_lengthM, Srt_lenM]
    have HOWN := Lib.hid (row_ownM hbg hrow3 (hlen3.trans hfl) (Nat.le_trans dn_lenM hnc) hcm)
    have HB3 := Lib.hid (HB2.out.trans (hon3.below HB2.out.size fun k e => by subst e; exact hbg))
    clear hrow3 hlen3 hon3
    go_wp2_with fail
    go_ret
    exact ⟨_, rfl, HOWN.out, HB3.out⟩


end Go.Proofs.Ytocgeemjdlnabaa
