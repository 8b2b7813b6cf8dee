/- entry.Sort. -/
import Derived.Test.YtkhadfliandpmaaGreatEg
import Derived.Test.YtkhadfliandpmaaGreatShelf
import Derived.Laws.AppendOwn
import Derived.Lib.SliceRun
namespace Go.Proofs.YtkhadfliandpmaaGreat
set_option maxRecDepth 100000
set_option linter.unusedSimpArgs false
set_option linter.unusedVariables false
open Go.RowKit

theorem lt_cf (a b : Hs) : ltOf Hs.cf a b = decide (a.n < b.n) := Hs.cf_lt a b
theorem swo_hs : Sort.SWO (ltOf Hs.cf) where
  irrefl x := by rw [lt_cf]; simp
  trans x y z h1 h2 := by rw [lt_cf] at *; simp at *; omega
  ntrans x y z h1 h2 := by rw [lt_cf] at *; simp at *; omega
theorem tot_hs (x y : Hs) (h1 : ltOf Hs.cf x y = false) (h2 : ltOf Hs.cf y x = false) : x = y := by
  rw [lt_cf] at *
  simp at h1 h2
  exact Hs.n_inj (by omega)
/-- Names in order. -/
def Srt (D : List Hs) : List Hs := D.mergeSort fun x y => !(ltOf Hs.cf) y x
theorem Srt_len (D : List Hs) : (Srt D).length = D.length := List.length_mergeSort D
theorem Srt_mem (D : List Hs) (x : Hs) : x ∈ Srt D ↔ x ∈ D := List.mem_mergeSort
theorem Srt_asc (D : List Hs) : (Srt D).Pairwise fun a b => a.n ≤ b.n := by
  have h := List.pairwise_mergeSort (le := fun x y : Hs => !(ltOf Hs.cf) y x) (fun a b c h1 h2 => by
    simp only [lt_cf] at *; simp at *; omega) (fun a b => by
    simp only [lt_cf]; simp; omega) D
  refine h.imp fun {a b} h => ?_
  simp only [lt_cf] at h
  simpa using h
theorem cmp_lays (blk off size : Nat) (w : World) : CmpLays Tryz.prog 12 #[] Hs.c 32 Hs.cf blk off size w := fun _ _ _ _ x y => compare_any x y _
theorem flatK_eq (D : List Hs) : Go.Sort.flatK Hs.c 32 D.toArray = (flat D).toArray := by
  apply Array.ext_getElem?
  intro t
  by_cases ht : t < D.length * 32
  · have h1 : t < (Go.Sort.flatK Hs.c 32 D.toArray).size := by simpa using ht
    have hi : t / 32 < D.length := by omega
    have hj : t % 32 < 32 := Nat.mod_lt _ (by omega)
    have h2 := Go.Sort.get_flatK Hs.c 32 D.toArray t (by simpa using ht)
    rw [getElem!_pos _ t h1] at h2
    rw [Array.getElem?_eq_getElem h1, h2]
    have h3 : D.toArray[t / 32]! = D[t / 32] := by rw [getElem!_pos D.toArray (t / 32) (by simpa using hi)]; simp
    have hc : t % 32 < (D[t / 32]).c.length := by rw [(D[t / 32]).c_len]; exact hj
    have h4 := flat_at (d := D) (i := t / 32) (x := D[t / 32]) (List.getElem?_eq_getElem hi) [] (j := t % 32) (v := (D[t / 32]).c[t % 32]) (List.getElem?_eq_getElem hc)
    rw [List.append_nil, show t / 32 * 32 + t % 32 = t by omega] at h4
    rw [List.getElem?_toArray, h4, h3, getElem!_pos (D[t / 32]).c (t % 32) hc]
  · rw [Array.getElem?_eq_none (by simp; omega), Array.getElem?_eq_none (by simp [flat_length]; omega)]
theorem holds_flat {w : World} {g : Nat} {T : TypeId} {D : List Hs} {R : List Value} (h : Row w g T (flat D ++ R)) : Go.Sort.HoldsK Hs.c 32 w g 0 D.toArray := by
  unfold Go.Sort.HoldsK
  rw [flatK_eq]
  intro j hj
  have hj' : j < (flat D).length := by simpa using hj
  refine ⟨h.cell ?_, h.free _⟩
  rw [Nat.zero_add, List.getElem?_append_left hj', getElem!_pos _ j hj, List.getElem?_eq_getElem hj']
  simp
theorem put_row {w : World} {g : Nat} {T : TypeId} {A R : List Value} (F : List Value) (hF : F.length = A.length) (h : Row w g T (A ++ R)) : Row (Sort.putRow id w g 0 F.toArray) g T (F ++ R) := by
  unfold Row at h ⊢
  show (w.heap.modify g _)[g]? = _
  rw [Array.getElem?_modify, if_pos rfl, h]
  simp only [Option.map_some, Sort.onCells]
  congr 2
  apply Array.ext_getElem?
  intro k
  simp only [Sort.putCells, Array.getElem?_mapIdx, List.getElem?_toArray]
  by_cases hk : k < F.length
  · rw [List.getElem?_append_left (by omega), List.getElem?_append_left hk, List.getElem?_eq_getElem (by omega), List.getElem?_eq_getElem hk, Option.map_some, if_pos ⟨by omega, by simp; omega⟩]
    rw [Nat.sub_zero, getElem!_pos _ k (by simpa using hk)]
    simp
  · rw [List.getElem?_append_right (by omega), List.getElem?_append_right (by omega), hF]
    cases R[k - A.length]? with
    | none => rfl
    | some y => rw [Option.map_some, if_neg (by simp; omega)]
theorem sort_row {w : World} {g n : Nat} {os : Array Obj} {T : TypeId} {D : List Hs} {R : List Value} (h : Row w g T (flat D ++ R)) : Row (sortWorldK Hs.c 32 w g 0 n (Srt D).toArray os) g T (flat (Srt D) ++ R) ∧ Only (fun k => k = g) w (sortWorldK Hs.c 32 w g 0 n (Srt D).toArray os) := by
  have h0 : Row (Sort.ahead w n) g T (flat D ++ R) := h
  have h1 := put_row (flat (Srt D)) (by rw [flat_length, flat_length, Srt_len]) h0
  have e : sortWorldK Hs.c 32 w g 0 n (Srt D).toArray os = Sort.grow (Sort.putRow id (Sort.ahead w n) g 0 (flat (Srt D)).toArray) os := by
    unfold sortWorldK Go.Sort.putRowK
    rw [flatK_eq]
  rw [e]
  have hsz : (Sort.putRow id (Sort.ahead w n) g 0 (flat (Srt D)).toArray).heap.size = w.heap.size := by rw [Sort.size_putRow]; rfl
  refine ⟨(Sort.heap_grow_old _ os h1.lt).trans h1, rfl, rfl, rfl, ?_, fun k hk hne => ?_⟩
  · show w.heap.size ≤ (_ ++ os).size
    rw [Array.size_append, hsz]; omega
  · rw [Sort.heap_grow_old _ os (by rw [hsz]; exact hk)]
    show (w.heap.modify g _)[k]? = _
    rw [Array.getElem?_modify, if_neg (fun e => hne e.symm)]

theorem hash_info : ∃ i : TypeInfo, Tryz.prog.info? 26 = some i ∧ i.zero = some (.agg (List.replicate 32 (Value.int .u8 0)).toArray) ∧ i.size = 32 ∧ i.bytes = 32 := by
  refine ⟨_, rfl, ?_, ?_, ?_⟩ <;> kernel_rfl
set_option maxHeartbeats 1600000 in
theorem hclone_any (ad : Addr) (n c : Nat) (news : List Value) (w : World) (hl : news.length = n * 32) (hn : n ≤ 1000000) (hc : ∀ j u, news[j]? = some u → w.cell? (ad.add j) = some u) (h1 : ∀ u ∈ news, u.oneCell' = true) :
    Calls Tryz.prog 10 #[.slice (some ad) n c] w fun e w' => ∃ v', e = .returned v' ∧ w'.ownsRow w.heap.size 26 32 v' n news ∧ Below w.heap.size w w' := by
  obtain ⟨i, hi, hz, hs, hb⟩ := hash_info
  have q22 : ∀ (w : World) (a : Option Addr) (n c n' c' : Nat), (binOp .eql 22 (.slice a n c) (.slice none n' c')).run Tryz.prog w = .ok (.bool a.isNone) w := fun w a n c n' c' => Lib.run_eql_slice_nil w _ _ a n c n' c' Tryz.underlying22
  have HC := Lib.hid hc
  have H1 := Lib.hid h1
  clear hc h1
  go_enter Tryz.func10, Tryz.ntmps10
  go_wp2_with (at_builtin; refine wpList_append_own _ rfl (.tmp 5) (.tmp 6) 22 rfl w.heap.size 26 i _ 32 32 Tryz.underlying22 hi hz hs hb (by simp [Value.cells]) (by omega) _ 0 [] rfl (World.ownsRow_made w #[] 0 (Nat.le_refl _) (Nat.zero_le _) (by simp)) ad n c news rfl hl ?q1 H1.out ?q2 ?q3 ?q4 ?_)
  case q1 =>
    intro j u hj
    exact Lib.cell?_alloc_some _ (HC.out j u hj)
  case q2 => unfold maxLen; omega
  case q3 => omega
  case q4 => simp
  intro v' w1 hown hgrow hnil
  have HOWN := Lib.hid hown
  have HGROW := Lib.hid hgrow
  clear hown hgrow hnil
  go_wp2_with fail
  go_ret
  refine ⟨v', rfl, by simpa using HOWN.out, ?_⟩
  exact ((Below.refl _ w).alloc (Nat.le_refl _) _).grown HGROW.out (by simp) (by intro k hk; simp [Value.ownBlock] at hk; omega)
theorem hclone_nil (n c : Nat) (w : World) :
    Calls Tryz.prog 10 #[.slice none n c] w fun e w' => e = .returned (.slice none 0 0) ∧ w' = w := by
  have q22 : ∀ (w : World) (a : Option Addr) (n c n' c' : Nat), (binOp .eql 22 (.slice a n c) (.slice none n' c')).run Tryz.prog w = .ok (.bool a.isNone) w := fun w a n c n' c' => Lib.run_eql_slice_nil w _ _ a n c n' c' Tryz.underlying22
  go_enter Tryz.func10, Tryz.ntmps10
  go_wp2
  go_ret
  exact ⟨rfl, rfl⟩
theorem compact_0 (p : Option Addr) (c : Nat) (w : World) :
    Calls Tryz.prog 13 #[.slice p 0 c] w fun e w' => e = .returned (.slice p 0 c) ∧ w' = w := by
  go_enter Tryz.func13, Tryz.ntmps13
  go_wp2_with fail
  go_ret
  exact ⟨rfl, rfl⟩
/-- A slice of names, wherever it lies. -/
def RdH (w : World) (A : Option Addr) (n : Nat) (D : List Hs) : Prop :=
  D.length = n ∧ (0 < n → ∃ ad, A = some ad ∧ ad.block < w.heap.size ∧ ∀ j v, (flat D)[j]? = some v → w.cell? (ad.add j) = some v)
theorem flat_one (D : List Hs) : ∀ u ∈ flat D, u.oneCell' = true := fun u hu => by
  unfold flat at hu
  rw [List.mem_flatMap] at hu
  obtain ⟨x, _, hx⟩ := hu
  exact x.c_one u hx
theorem own_row {w : World} {B n : Nat} {v : Value} {D : List Hs} (h : w.ownsRow B 26 32 v n (flat D)) (hn : 0 < n) : ∃ g cap R, v = .slice (some ⟨g, 0, none⟩) n cap ∧ B ≤ g ∧ Row w g 26 (flat D ++ R) ∧ n ≤ cap ∧ cap ≤ maxLen ∧ (flat D ++ R).length = cap * 32 := by
  rcases h.2 with h' | ⟨g, cap, cur, rfl, hb, hh, h1, h2, h3, h4⟩
  · exact absurd h'.2 (by omega)
  refine ⟨g, cap, cur.toList.drop (n * 32), rfl, hb, ?_, h1, h2, ?_⟩
  · show w.heap[g]? = _
    rw [← h4, List.take_append_drop]
    exact hh
  · rw [← h4, List.take_append_drop, Array.length_toList, h3]
theorem row_own {w : World} {B g cap : Nat} {L : List Hs} {R : List Value} (hb : B ≤ g) (h : Row w g 26 (flat L ++ R)) (hc : (flat L ++ R).length = cap * 32) (hL : L.length ≤ cap) (hm : cap ≤ maxLen) : w.ownsRow B 26 32 (.slice (some ⟨g, 0, none⟩) L.length cap) L.length (flat L) := by
  refine ⟨flat_length L, Or.inr ⟨g, cap, (flat L ++ R).toArray, rfl, hb, h, hL, hm, by simpa using hc, ?_⟩⟩
  rw [List.toList_toArray, List.take_left' (flat_length L)]
set_option maxHeartbeats 1600000 in
theorem sort_any (A : Option Addr) (n c : Nat) (D : List Hs) (w : World) (hr : RdH w A n D) (hn : n ≤ 1000000) :
    Calls Tryz.prog 5 #[.slice A n c] w fun e w' => ∃ v, e = .returned v ∧ w'.ownsRow w.heap.size 26 32 v (dn (Srt D) n).length (flat (dn (Srt D) n)) ∧ Below w.heap.size w w' := by
  have hDn := hr.1
  rcases Nat.eq_zero_or_pos n with h0 | h0
  · subst h0
    have hD : D = [] := List.length_eq_zero_iff.1 hDn
    subst hD
    have HSF := fun p cap fv w => AnyF.slices_SortFunc_none sortH p cap fv w
    change ∀ (p : Option Addr) (cap : Nat) (fv : Value) (w : World), Calls Tryz.prog 11 _ _ _ at HSF
    have HSF := Lib.hid HSF
    have hcl : Calls Tryz.prog 10 #[.slice A 0 c] w fun e w' => ∃ p c', e = .returned (.slice p 0 c') ∧ w'.ownsRow w.heap.size 26 32 (.slice p 0 c') 0 [] ∧ Below w.heap.size w w' := by
      cases A with
      | none =>
        refine (hclone_nil 0 c w).mono ?_
        rintro e w' ⟨rfl, rfl⟩
        exact ⟨none, 0, rfl, ⟨rfl, Or.inl ⟨rfl, rfl⟩⟩, Below.refl _ _⟩
      | some ad =>
        refine (hclone_any ad 0 c [] w rfl (by omega) (by simp) (by simp)).mono ?_
        rintro e w' ⟨v', rfl, ho, hb⟩
        rcases ho.2 with ⟨rfl, _⟩ | ⟨g, cap, cur, rfl, h⟩
        · exact ⟨none, 0, rfl, ho, hb⟩
        · exact ⟨_, cap, rfl, ho, hb⟩
    have HCL := Lib.hid hcl
    clear hcl hr hDn
    go_enter Tryz.func5, Tryz.ntmps5
    go_wp2_with fail
    refine HCL.out.mono ?_
    rintro e W1 ⟨p, c', rfl, ho, hb⟩
    have HO := Lib.hid ho
    have HB := Lib.hid hb
    clear ho hb
    go_wp2_with fail
    refine (HSF.out _ _ _ _).mono ?_
    rintro e W2 ⟨rfl, rfl⟩
    go_wp2_with fail
    refine (compact_0 _ _ _).mono ?_
    rintro e W3 ⟨rfl, rfl⟩
    go_wp2_with fail
    go_ret
    exact ⟨_, rfl, HO.out, HB.out⟩
  · obtain ⟨ad, rfl, hlt, hcells⟩ := hr.2 h0
    have HCL := Lib.hid (hclone_any ad n c (flat D) w (by rw [flat_length, hDn]) hn hcells (flat_one D))
    have eg : ∀ args w, (callFunc 12 args).run Tryz.prog w = .ok (.enter 12 args) w := enters_of Tryz.func12 (by kernel_rfl) rfl
    have hsort : ∀ (g cap : Nat) (R : List Value) (w1 : World), Row w1 g 26 (flat D ++ R) → Calls Tryz.prog 11 #[.slice (some ⟨g, 0, none⟩) n cap, .func (.func 12) #[] #[]] w1 fun e w' => e = .returned (.tuple #[]) ∧ Row w' g 26 (flat (Srt D) ++ R) ∧ Only (fun k => k = g) w1 w' := by
      intro g cap R w1 hrow
      have h := AnyQ.slices_SortFunc_total sortH 32 Tryz.isAgg26 Tryz.sizeOf26 Hs.c Hs.c_len Hs.c_one Hs.cf swo_hs 12 #[] g 0 cap D.toArray w1 eg (cmp_lays g 0 _ w1) (holds_flat hrow) hrow.lt (by simp; omega) tot_hs
      change Calls Tryz.prog 11 _ _ _ at h
      have hsz : D.toArray.size = n := by simp [hDn]
      rw [hsz] at h
      refine h.mono ?_
      rintro e w' ⟨rfl, m, os, rfl⟩
      exact ⟨rfl, sort_row hrow⟩
    have HSF := Lib.hid hsort
    clear hsort hcells eg hr
    go_enter Tryz.func5, Tryz.ntmps5
    go_wp2_with fail
    refine HCL.out.mono ?_
    rintro e W1 ⟨v', rfl, ho, hb⟩
    obtain ⟨g, cap, R, rfl, hbg, hrow, hnc, hcm, hlen⟩ := own_row ho h0
    have HROW := Lib.hid hrow
    have HB := Lib.hid hb
    clear ho hb hrow
    go_wp2_with fail
    refine (HSF.out g cap R W1 HROW.out).mono ?_
    rintro e W2 ⟨rfl, hrow2, hon2⟩
    have HROW2 := Lib.hid hrow2
    have HB2 := Lib.hid (HB.out.trans (hon2.below HB.out.size fun k e => by subst e; exact hbg))
    clear hrow2 hon2
    go_wp2_with fail
    refine (compact_any (Srt D) R g n cap W2 HROW2.out (by rw [Srt_len, hDn]) hnc hcm h0 (by omega)).mono ?_
    rintro e W3 ⟨rfl, ⟨R', hrow3, hlen3⟩, hon3⟩
    have hfl : (flat (Srt D) ++ R).length = cap * 32 := by
      rw [← hlen, List.length_append, List.length_append, flat_length, flat_length, Srt_len]
    have HOWN := Lib.hid (row_own hbg hrow3 (hlen3.trans hfl) (Nat.le_trans dn_len hnc) hcm)
    have HB3 := Lib.hid (HB2.out.trans (hon3.below HB2.out.size fun k e => by subst e; exact hbg))
    clear hrow3 hlen3 hon3
    go_wp2_with fail
    go_ret
    exact ⟨_, rfl, HOWN.out, HB3.out⟩

end Go.Proofs.YtkhadfliandpmaaGreat
