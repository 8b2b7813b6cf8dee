/- The elements of a list read. A value read: the program's recursion, at a right value's bytes. -/
import Derived.Test.YtkjhmplnamaoaaaGreatDoorMg6
import Derived.Test.YtkjhmplnamaoaaaGreatDoorMg5
namespace Go.Proofs.YtkjhmplnamaoaaaGreatDoor
section
set_option maxRecDepth 100000
set_option linter.unusedSimpArgs false
set_option linter.unusedVariables false
open Go.RowKit

theorem u64_info_ : (Tryz.prog.info? 54).map (fun i => (i.zero, i.size, i.bytes)) = some (some (.int .u64 0), 1, 8) := by kernel_rfl
theorem mk_u64_ (x : Int) (w : World) : (Instr.buildSlice 23 1 #[(0, .int .u64 x)]).run Tryz.prog w = .ok (.slice (some ⟨w.heap.size, 0, none⟩) 1 1) (w.alloc (.cells #[.int .u64 x] 54)) := by kernel_rfl
theorem ld_u64s_ {p : Addr} {v : Value} {w : World} (hc : w.cell? p = some v) {a : Option Addr} {n c : Nat} (hv : v = .slice a n c) : (Instr.loadAt 23 (.pointer (some p))).run Tryz.prog w = .ok v w := by
  subst hv
  go_simp
theorem st_u64s_ {p : Addr} {old v : Value} {w : World} (hc : w.cell? p = some old) (hf : w.frozen? p = false) {a : Option Addr} {n c : Nat} (hv : v = .slice a n c) : (Instr.storeAt 23 (.pointer (some p)) v).run Tryz.prog w = .ok () (w.setCell p v) := by
  subst hv
  go_simp
def esB (l : List Int) (parts : Nat → Vt) (n : Nat) : List UInt8 := (List.range n).flatMap fun i => iB l i ++ (parts i).bytes
theorem esB_more (l : List Int) (parts : Nat → Vt) (n : Nat) : esB l parts (n + 1) = esB l parts n ++ (iB l n ++ (parts n).bytes) := by
  unfold esB
  rw [List.range_succ, List.flatMap_append]
  simp
theorem esB_split (l : List Int) (parts : Nat → Vt) {j : Nat} : ∀ {n : Nat}, j ≤ n → ∃ R, esB l parts n = esB l parts j ++ R
  | 0, h => ⟨[], by obtain rfl : j = 0 := by omega
                    simp⟩
  | n + 1, h => by
    by_cases e : j = n + 1
    · subst e
      exact ⟨[], by simp⟩
    · obtain ⟨R, hR⟩ := esB_split l parts (j := j) (n := n) (by omega)
      exact ⟨R ++ (iB l n ++ (parts n).bytes), by rw [esB_more, hR, List.append_assoc]⟩
theorem nums_more (l : List Int) {j : Nat} (hj : j < l.length) : (l.take (j + 1)).map (Value.int .u64) = (l.take j).map (Value.int .u64) ++ [Value.int .u64 (l.getD j 0)] := by
  rw [List.take_add_one, List.map_append]
  simp [hj]
theorem ids_at {l : List Int} (h : idsB l = true) {j : Nat} (hj : j < l.length) : freshB (l.take j) j (l.getD j 0) = true := by
  unfold idsB at h
  have h1 := List.all_eq_true.1 h j (List.mem_range.2 hj)
  rw [Bool.and_eq_true] at h1
  unfold freshB
  rw [h1.1, Bool.true_and, List.all_eq_true]
  intro i hi
  have hij := List.mem_range.1 hi
  have h2 := List.all_eq_true.1 h1.2 i hi
  have e : (l.take j).getD i 0 = l.getD i 0 := by simp [List.getD, List.getElem?_take, hij]
  rw [e]
  exact h2
theorem count12_any (g : Nat) (A : Option Addr) (c : Nat) (F : Nat → Prop) (k : List UInt8) (p n : Nat) (R : List UInt8) (w : World) (h : Rr w g A c F k p 0) (hk : k.drop p = enc n ++ R) (hn : n ≤ 12) :
    Calls Tryz.prog 98 #[.pointer (some ⟨g, 0, none⟩), .int .i64 12] w fun e w' => e = .returned (.int .i64 n) ∧ Readto w w' g A c F k (p + (enc n).length) 0 := by
  have hr := rnumber_ok g A c F k p 18446744073709551615 w h
  rw [rnum_at hk (by omega) (by omega)] at hr
  have HR := Lib.hid hr
  have hn8 : (n : Int) ≤ 12 := by omega
  clear h hk hr
  go_enter Tryz.func98, Tryz.ntmps98
  go_wp2_with fail
  refine HR.out.mono ?_
  rintro e W1 ⟨rfl, hto⟩
  have HT := Lib.hid hto
  clear hto
  go_wp2_with fail
  go_ret
  exact ⟨by first | rfl | (simp), HT.out⟩
theorem vfc_any (q : Addr) (a : Option Addr) (n cap : Nat) (l : List Int) (x : Int) (hn : n ≤ 9223372036854775807) (hf : freshB l n x = true) (w : World) (hq : w.cell? q = some (.slice a n cap)) (h : Nums w a n l) :
    Calls Tryz.prog 102 #[.int .u64 x, .pointer (some q)] w fun e w' => e = .returned (.bool true) ∧ w' = w := by
  have hr := fresh_any a n cap l x hn w h
  rw [hf] at hr
  have HR := Lib.hid hr
  clear hr h hn hf
  go_enter Tryz.func102, Tryz.ntmps102
  go_wp2_with fail
  refine HR.out.mono ?_
  rintro e W1 ⟨rfl, rfl⟩
  go_wp2_with fail
  go_ret
  exact ⟨rfl, rfl⟩
section
variable (g : Nat) (A : Option Addr) (c : Nat) (F : Nat → Prop) (k : List UInt8) (p : Nat)
theorem easked_any (q : Addr) (a : Option Addr) (n cap : Nat) (l : List Int) (m : Nat) (R : List UInt8) (w : World) (h : Rr w g A c F k p 0) (hk : k.drop p = enc m ++ R) (hm : m < 18446744073709551616)
    (hn : n ≤ 9223372036854775807) (hf : freshB l n (m : Int) = true) (hq : w.cell? q = some (.slice a n cap)) (hqg : q.block ≠ g) (hl : Rd w (fun j => j ≠ g) a n (l.map (.int .u64))) :
    Calls Tryz.prog 114 #[.pointer (some ⟨g, 0, none⟩), .func (.func 115) #[] #[], .func (.func 102) #[] #[.pointer (some q)]] w fun e w' => e = .returned (.int .u64 m) ∧ Readto w w' g A c F k (p + (enc m).length) 0 := by
  have HR := Lib.hid (nread_any g A c F k p m R w h hk hm)
  have HA := Lib.hid (show ∀ w1 : World, Only (fun j => j = g) w w1 → Calls Tryz.prog 102 #[.int .u64 (m : Int), .pointer (some q)] w1 fun e w' => e = .returned (.bool true) ∧ w' = w1 from
    fun w1 ho => vfc_any q a n cap l m hn hf w1 ((ho.cell hqg (lt_of_cell hq)).trans hq) ((hl.only ho fun _ h => h).mono fun _ _ _ => trivial))
  clear h hk hf hq hl
  go_enter Tryz.func114, Tryz.ntmps114
  go_wp2_with fail
  refine HR.out.mono ?_
  rintro e W1 ⟨rfl, hto⟩
  have HT := Lib.hid hto
  clear hto
  go_wp2_with fail
  refine (HA.out _ HT.out.only).mono ?_
  rintro e W2 ⟨rfl, rfl⟩
  go_wp2_with fail
  go_ret
  exact ⟨rfl, HT.out⟩
theorem enumber_any (q : Addr) (a : Option Addr) (n cap : Nat) (l : List Int) (m : Nat) (R : List UInt8) (w : World) (h : Rr w g A c F k p 0) (hk : k.drop p = enc m ++ R) (hm : m < 18446744073709551616)
    (hn : n ≤ 9223372036854775807) (hf : freshB l n (m : Int) = true) (hq : w.cell? q = some (.slice a n cap)) (hqg : q.block ≠ g) (hl : Rd w (fun j => j ≠ g) a n (l.map (.int .u64))) :
    Calls Tryz.prog 101 #[.pointer (some ⟨g, 0, none⟩), .func (.func 102) #[] #[.pointer (some q)]] w fun e w' => e = .returned (.int .u64 m) ∧ Readto w w' g A c F k (p + (enc m).length) 0 := by
  have HA := Lib.hid (easked_any g A c F k p q a n cap l m R w h hk hm hn hf hq hqg hl)
  clear h hk hf hq hl
  go_enter Tryz.func101, Tryz.ntmps101
  go_wp2_with fail
  refine HA.out.mono ?_
  rintro e W1 ⟨rfl, hto⟩
  have HT := Lib.hid hto
  clear hto
  go_wp2_with fail
  go_ret
  exact ⟨rfl, HT.out⟩
end

/-- What stands at the head of a round. -/
structure REi (w wr : World) (g : Nat) (A : Option Addr) (c : Nat) (F : Nat → Prop) (k : List UInt8) (p : Nat) (l : List Int) (parts : Nat → Vt) (j : Nat) (v u : Value) (css : Nat → List Value) : Prop where
  box : Row wr w.heap.size 23 [v]
  row : wr.ownsRow (w.heap.size + 1) 54 1 v j ((l.take j).map (Value.int .u64))
  prow : wr.ownsRow (w.heap.size + 1) 26 6 u j ((List.range j).flatMap css)
  pin : ∀ i, i < j → PIn (w.heap.size + 1) wr v u (parts i) (css i)
  rd : Readto w wr g A c F k p 0

set_option maxHeartbeats 3200000 in
theorem eread_any (g : Nat) (A : Option Addr) (c : Nat) (F : Nat → Prop) (k : List UInt8) (p : Nat) (l : List Int) (parts : Nat → Vt) (R : List UInt8) (fq : FuncId) (fn : Func) (caps : Array Value) (w : World) (h : Rr w g A c F k p 0)
    (hfn : Tryz.prog.funcs[fq]? = some fn) (hfm : (fn.name == "runtime.NumGoroutine") = false) (hfb : fn.body.isNone = false)
    (hk : k.drop p = enc l.length ++ (esB l parts l.length ++ R)) (h8 : l.length ≤ 12) (hw : idsB l = true) (hwf : ∀ x ∈ l, (Lit.int .u64 x).wf = true) (hF : ∀ j, F j → j < g)
    (hP : ∀ j, j < l.length → ∀ (w' : World) (p' : Nat) (R' : List UInt8), Only (fun b => b = g) w w' → Rr w' g A c F k p' 0 → k.drop p' = (parts j).bytes ++ R' →
      Calls Tryz.prog fq caps w' fun e w'' => ∃ cs, e = .returned (.agg cs.toArray) ∧ (∃ X, VIn X w'' (parts j) cs ∧ ∀ b, X b → w'.heap.size ≤ b ∧ b < w''.heap.size) ∧ Readto w' w'' g A c F k (p' + (parts j).bytes.length) 0) :
    Calls Tryz.prog 76 #[.pointer (some ⟨g, 0, none⟩), .func (.func fq) #[] caps] w fun e w' => ∃ v u css, e = .returned (.tuple #[v, u]) ∧ REi w w' g A c F k (p + ((enc l.length).length + (esB l parts l.length).length)) l parts l.length v u css := by
  obtain ⟨i0, hi, hz0, hz1, hz2⟩ := info_parts u64_info_
  obtain ⟨k0, hi2, hy0, hy1, hy2⟩ := info_parts sch_info_
  have hgl := h.lt
  have HCT := Lib.hid (count12_any g A c F k p l.length (esB l parts l.length ++ R) (w.alloc (.cells #[.slice none 0 0] 23)) (h.below (below_new w _)) hk h8)
  have HK := Lib.hid hk
  have HWD := Lib.hid hw
  have HWF := Lib.hid hwf
  have HF := Lib.hid hF
  have HP := Lib.hid hP
  obtain ⟨n, hn⟩ : ∃ n, l.length = n := ⟨_, rfl⟩
  rw [hn] at HCT h8 HK HP ⊢
  have HN := Lib.hid hn
  have HBX := Lib.hid (Row.new w [.slice none 0 0] 23)
  clear h hk hw hn hF hP hwf
  go_enter Tryz.func76, Tryz.ntmps76
  go_wp2_with fail
  refine HCT.out.mono ?_
  rintro e W1 ⟨rfl, hto⟩
  have HBX1 := Lib.hid (HBX.out.only hto.only (by omega))
  have HT := Lib.hid (readto_from hto)
  clear hto
  go_wp2_with fail
  go_loopw [5, 8] (fun u i wr => ∃ (j : Nat) (v : Value) (css : Nat → List Value), j ≤ n ∧ i = .int .i64 (j : Int) ∧ REi w wr g A c F k (p + ((enc n).length + (esB l parts j).length)) l parts j v u css) (fun _ i _ => n - (intOf i).toNat)
  case atStart => exact ⟨0, .slice none 0 0, fun _ => [], Nat.zero_le _, rfl, ⟨HBX1.out, World.ownsRow_nil _ _ _ _, World.ownsRow_nil _ _ _ _, fun i hi => absurd hi (Nat.not_lt_zero _), HT.out⟩⟩
  case round =>
    obtain ⟨j, v, css, hjn, rfl, hinv⟩ := hrel
    have HINV := Lib.hid hinv
    have hblt := hinv.box.lt
    clear hinv
    obtain ⟨a, cv, rfl⟩ := own_slice HINV.out.row
    have bj0 : (0 : Int) ≤ (j : Int) := by omega
    by_cases hj : j < n
    · have hji : (j : Int) < (n : Int) := by omega
      have hjl : j < l.length := by rw [HN.out]; exact hj
      have hbc := HINV.out.box.cell (k := 0) rfl
      have hmem : l.getD j 0 ∈ l := by simp [hjl]
      have hbd := wf_u64_lt (HWF.out _ hmem)
      obtain ⟨m, hm⟩ : ∃ m : Nat, l.getD j 0 = (m : Int) := ⟨(l.getD j 0).toNat, by omega⟩
      have hib : iB l j = enc m := by unfold iB; rw [hm]; rfl
      have hm64 : m < 18446744073709551616 := by omega
      have hnew : freshB (l.take j) j (m : Int) = true := by rw [← hm]; exact ids_at HWD.out hjl
      obtain ⟨R2, hR2⟩ := esB_split l parts (j := j + 1) (n := n) (by omega)
      have hkd : k.drop (p + ((enc n).length + (esB l parts j).length)) = enc m ++ ((parts j).bytes ++ (R2 ++ R)) := by
        rw [← Nat.add_assoc]
        refine drop_more (drop_more ?_)
        rw [HK.out, hR2, esB_more]
        rw [hib]
        simp only [List.append_assoc]
      have hkd2 := Lib.hid hkd
      have hrd : Rd wr.drew (fun q => q ≠ g) a j ((l.take j).map (Value.int .u64)) := (Rd.of_own (w := wr.drew) HINV.out.row).mono fun q _ hq => by
        have := (HINV.out.row.lt q hq).1
        omega
      have HW := Lib.hid (enumber_any g A c F k _ ⟨w.heap.size, 0, none⟩ a j cv (l.take j) m ((parts j).bytes ++ (R2 ++ R)) wr.drew (HINV.out.rd.rr.below (Below.refl _ _).drew) hkd hm64 (by omega) hnew hbc (by show w.heap.size ≠ g; omega) hrd)
      have HSM := Lib.hid (show (l.take (j + 1)).map (Value.int .u64) = (l.take j).map (Value.int .u64) ++ [Value.int .u64 (m : Int)] by rw [nums_more l hjl, hm])
      have HWM := Lib.hid (esB_more l parts j)
      have hwl : (iB l j).length = (enc m).length := by rw [hib]
      clear hkd hnew hrd hR2 hmem hbd hm hib
      go_wp2_with fail
      refine startT (fun w' => w'.cell? ⟨w.heap.size, 0, none⟩ = some (.slice a j cv)) [5] (by kernel_rfl) ?_
      have hS0 : wr.drew.cell? ⟨w.heap.size, 0, none⟩ = some (.slice a j cv) := hbc
      refine takeT 0 (some 10) rfl rfl (by kernel_rfl) (by kernel_rfl) (fun _ _ _ h => h) (Reads.load 23 (.tmp 4) rfl _ _ rfl (fun w' h => ld_u64s_ h rfl)) hS0 ?_
      simp only [Act.put, List.setIfInBounds_toArray, List.set_cons_zero, List.set_cons_succ]
      refine takeT 1 (some 11) rfl rfl (by kernel_rfl) (by kernel_rfl) (fun _ _ _ h => h) (Reads.move (x := .tmp 0) rfl rfl) hS0 ?_
      simp only [Act.put, List.setIfInBounds_toArray, List.set_cons_zero, List.set_cons_succ]
      refine takeT 2 (some 12) (v := .func (.func 102) #[] #[.pointer (some ⟨w.heap.size, 0, none⟩)]) rfl rfl (by kernel_rfl) (by kernel_rfl) (fun _ _ _ h => h) (Reads.makeFunc 102 (.tmp 4) rfl _ rfl (fun w' => mk_func_ _ _ w')) hS0 ?_
      simp only [Act.put, List.setIfInBounds_toArray, List.set_cons_zero, List.set_cons_succ]
      refine oneT 3 (by kernel_rfl) rfl (by kernel_rfl) (fun K hK => ?_)
      refine wp_call_any (args := [.pointer (some ⟨g, 0, none⟩), .func (.func 102) #[] #[.pointer (some ⟨w.heap.size, 0, none⟩)]]) rfl Tryz.func101 (by kernel_rfl) (by kernel_rfl) rfl HW.out ?_
      rintro e W3 ⟨rfl, hto3⟩
      refine ⟨_, rfl, ?_⟩
      have hb3 : Row W3 w.heap.size 23 [.slice a j cv] := (show Row wr.drew w.heap.size 23 [.slice a j cv] from HINV.out.box).only hto3.only (by omega)
      have hS3 := hb3.cell (k := 0) rfl
      have ho3 : W3.ownsRow (w.heap.size + 1) 54 1 (.slice a j cv) j ((l.take j).map (Value.int .u64)) := own_only (w := wr.drew) HINV.out.row hto3.only (fun q hq e => by have h1 := (HINV.out.row.lt q hq).1; have h2 : q = g := e; omega)
      have ht3 : Readto w W3 g A c F k _ 0 := ⟨hto3.rr, (HINV.out.rd.only.trans (Only.of_below (Below.refl _ _).drew _) fun _ _ h => h).trans hto3.only fun _ _ h => h⟩
      refine hK.out _ _ (fun _ => hS3) ?_
      clear hK K
      change wpAnyT _ _ _ _ _ _ _ _ (Act.put _ (some 13) _) _
      simp only [Act.put, List.setIfInBounds_toArray, List.set_cons_zero, List.set_cons_succ]
      have hb4 := hb3.alloc (.cells #[.int .u64 (m : Int)] 54)
      have ho4 := ho3.alloc (.cells #[.int .u64 (m : Int)] 54)
      have ht4 := readto_new ht3 (.cells #[.int .u64 (m : Int)] 54)
      refine oneT 4 (by kernel_rfl) rfl (by kernel_rfl) (fun K hK => ?_)
      refine wp_slice1 23 54 (.tmp 13) rfl (.int .u64 (m : Int)) rfl #[.int .u64 (m : Int)] (fun w' => mk_u64_ _ w') ?_
      refine hK.out _ _ (fun _ => hb4.cell (k := 0) rfl) ?_
      clear hK K
      change wpAnyT _ _ _ _ _ _ _ _ (Act.put _ (some 14) _) _
      simp only [Act.put, List.setIfInBounds_toArray, List.set_cons_zero, List.set_cons_succ]
      have hsz3 := hb3.lt
      refine oneT 5 (by kernel_rfl) rfl (by kernel_rfl) (fun K hK => ?_)
      refine wp_append_at (.tmp 10) (.tmp 14) 23 rfl (w.heap.size + 1) 54 i0 (.int .u64 0) 1 8 Tryz.underlying23 hi hz0 hz1 hz2 rfl (by decide) (.slice a j cv) j _ rfl ho4 ⟨W3.heap.size, 0, none⟩ 1 1 [.int .u64 (m : Int)] rfl rfl (Go.cell_one_new W3 (.int .u64 (m : Int)) _) (by intro u hu; simp at hu; subst hu; rfl) (by unfold maxLen; omega) (by omega) (by simp; omega) (fun v5 W5 ho5 hg5 hat5 => ?_)
      refine hK.out _ _ (late_ok_ (by kernel_rfl)) ?_
      clear hK K
      change wpAnyT _ _ _ _ _ _ _ _ (Act.put _ (some 15) _) _
      simp only [Act.put, List.setIfInBounds_toArray, List.set_cons_zero, List.set_cons_succ]
      have hno : ∀ q, (Value.slice a j cv).ownBlock = some q → w.heap.size + 1 ≤ q := fun q hq => (ho4.lt q hq).1
      have ht5 := readto_grown ht4 hgl HF.out hg5 (fun q hq => by have := hno q hq; omega)
      have hb5 : Row W5 w.heap.size 23 [.slice a j cv] := hb4.only (only_grown hg5) (fun e => by have := hno _ e; omega)
      have HA5 := Lib.hid (show v5.ownBlock = (Value.slice a j cv).ownBlock ∨ ∃ b, v5.ownBlock = some b ∧ wr.heap.size ≤ b from hat5.imp id fun e => ⟨_, e, by have h1 := hto3.only.size; have h2 : wr.drew.heap.size = wr.heap.size := rfl; simp; omega⟩)
      clear hat5
      obtain ⟨a5, c5, rfl⟩ := own_slice ho5
      refine oneT 6 (by kernel_rfl) rfl (by kernel_rfl) (fun K hK => ?_)
      refine wp_store_cell 23 (.tmp 4) (.tmp 15) rfl ⟨w.heap.size, 0, none⟩ rfl (.slice a5 (j + 1) c5) rfl (st_u64s_ (hb5.cell (k := 0) rfl) (hb5.free 0) rfl) ?_
      refine hK.out _ _ (late_ok_ (by kernel_rfl)) ?_
      clear hK K
      change wpAnyT _ _ _ _ _ _ _ _ (Act.put _ none _) _
      simp only [Act.put, List.setIfInBounds_toArray, List.set_cons_zero, List.set_cons_succ]
      refine doneT (by kernel_rfl) ?_ _
      have hne5 := own_ne HINV.out.row HINV.out.prow (by decide)
      have hO6 : Only (fun b => b = g ∨ b = w.heap.size ∨ (Value.slice a j cv).ownBlock = some b) wr (W5.setCell ⟨w.heap.size, 0, none⟩ (.slice a5 (j + 1) c5)) :=
        (((((Only.of_below (Below.refl _ _).drew _).trans hto3.only fun _ _ h => .inl h).alloc (.cells #[.int .u64 (m : Int)] 54)).trans (only_grown hg5) fun _ _ h => .inr (.inr h))).setCell (.inl (.inr (.inl rfl))) _
      have HO6 := Lib.hid hO6
      have HB6 := Lib.hid (show Row (W5.setCell ⟨w.heap.size, 0, none⟩ (.slice a5 (j + 1) c5)) w.heap.size 23 [.slice a5 (j + 1) c5] from hb5.set 0 _)
      have HR6 := Lib.hid (own_set_ ho5 (p := ⟨w.heap.size, 0, none⟩) (by show w.heap.size < _; omega) (.slice a5 (j + 1) c5))
      have HT6 := Lib.hid (show Readto w (W5.setCell ⟨w.heap.size, 0, none⟩ (.slice a5 (j + 1) c5)) g A c F k (p + ((enc n).length + (esB l parts j).length) + ((enc m).length)) 0 from
        ⟨ht5.rr.only (Only.setCell (S := fun q => q = w.heap.size) (Only.refl _ _) (.inl rfl) _) (by show ¬ g = w.heap.size; omega) (fun q hq e => by have h1 := HF.out q hq; have h2 : q = w.heap.size := e; omega), ht5.only.trans (Only.setCell (S := fun q => q = w.heap.size) (Only.refl _ _) (.inl rfl) _) fun q hq e => by have h2 : q = w.heap.size := e; omega⟩)
      have HU6 := Lib.hid (own_only HINV.out.prow hO6 (fun q hq h => by
        have h1 := (HINV.out.prow.lt q hq).1
        rcases h with h | h | h
        · omega
        · omega
        · rcases hne5 with e | e
          · rw [e] at h; cases h
          · exact e (h.trans hq.symm)))
      generalize W5.setCell ⟨w.heap.size, 0, none⟩ (.slice a5 (j + 1) c5) = W6 at *
      have hOg : Only (fun b => b = g) w W6 := HT6.out.only
      have hkd3 : k.drop (p + ((enc n).length + (esB l parts j).length) + ((enc m).length)) = (parts j).bytes ++ (R2 ++ R) := by
        exact drop_more hkd2.out
      have HC := Lib.hid (show Calls Tryz.prog fq (([] : List Value).toArray ++ caps) W6 _ from by simpa using HP.out j hj W6 _ (R2 ++ R) hOg HT6.out.rr hkd3)
      clear hkd3 hOg
      go_wp2_with (refine wpList_call_fn rfl (x := .tmp 17) (xs := []) rfl rfl hfn hfm hfb rfl HC.out ?_)
      intro e W7 ds he X hX hXb hto7
      subst he
      refine ⟨_, rfl, ?_⟩
      obtain ⟨kd, nd, sd, ad, lad, cad, bd, lbd, cbd, ed, led, ced, rfl⟩ := hX.form
      have HX := Lib.hid hX
      have HXB := Lib.hid hXb
      have HT7 := Lib.hid hto7
      have HU7 := Lib.hid (own_only HU6.out hto7.only (fun q hq e => by have h1 := (HU6.out.lt q hq).1; have h2 : q = g := e; omega))
      clear hX hXb hto7
      have HU8 := Lib.hid (HU7.out.alloc (.cells #[.int .i64 kd, .int .i64 nd, .string sd, .slice ad lad cad, .slice bd lbd cbd, .slice ed led ced] 26))
      have HRN := Lib.hid (Row.new W7 [.int .i64 kd, .int .i64 nd, .string sd, .slice ad lad cad, .slice bd lbd cbd, .slice ed led ced] 26)
      have hs67 := HT7.out.only.size
      have hs6 := HT6.out.only.size
      have hb6 := HB6.out.lt
      have hgB : g < w.heap.size := hgl
      go_wp2_with (at_builtin; refine wpList_append_own_at _ rfl (.tmp 16) (.tmp 19) 24 rfl (w.heap.size + 1) 26 k0 (.agg #[.int .i64 0, .int .i64 0, .string ByteArray.empty, .slice none 0 0, .slice none 0 0, .slice none 0 0]) 6 104 Tryz.underlying24 hi2 hy0 hy1 hy2 rfl (by omega) u5 j ((List.range j).flatMap css) rfl HU8.out ⟨W7.heap.size, 0, none⟩ 1 1 [.int .i64 kd, .int .i64 nd, .string sd, .slice ad lad cad, .slice bd lbd cbd, .slice ed led ced] rfl rfl ?cn ?co ?c1 ?c2 ?c3 ?_)
      case cn =>
        intro j u hu
        have ea : (⟨W7.heap.size, 0, none⟩ : Addr).add j = ⟨W7.heap.size, j, none⟩ := by unfold Addr.add; split <;> simp_all
        rw [ea]
        exact HRN.out.cell hu
      case co => intro u hu; simp at hu; rcases hu with rfl | rfl | rfl | rfl | rfl | rfl <;> rfl
      case c1 => unfold maxLen; omega
      case c2 => omega
      case c3 => simp; omega
      intro u9 W9 hown9 hg9 hex9 hat9
      have HO9 := Lib.hid hown9
      have HG9 := Lib.hid hg9
      have HA9 := Lib.hid hat9
      clear hown9 hg9 hat9
      have hu5lt : ∀ q, u5.ownBlock = some q → q < W6.heap.size := fun q hq => (HU6.out.lt q hq).2
      have hv5lt : ∀ q, (Value.slice a5 (j + 1) c5).ownBlock = some q → q < W6.heap.size := fun q hq => (HR6.out.lt q hq).2
      have hu5lo : ∀ q, u5.ownBlock = some q → w.heap.size + 1 ≤ q := fun q hq => (HU6.out.lt q hq).1
      have hs9 := HG9.out.size
      have h89 : W7.heap.size + 1 ≤ W9.heap.size := by simpa using hs9
      have h9 : Only (fun q => u5.ownBlock = some q) W7 W9 := ((Only.refl _ _).alloc _).trans (only_grown HG9.out) fun _ _ h => h
      have h69 : Only (fun q => q = g ∨ u5.ownBlock = some q) W6 W9 := ((Only.refl (fun q => q = g ∨ u5.ownBlock = some q) W6).trans HT7.out.only (fun _ _ h => .inl h)).trans h9 (fun _ _ h => .inr h)
      have HN2 := Lib.hid (show REi w W9 g A c F k (p + ((enc n).length + (esB l parts (j + 1)).length)) l parts (j + 1) (.slice a5 (j + 1) c5) u9 (fun i => if i = j then [.int .i64 kd, .int .i64 nd, .string sd, .slice ad lad cad, .slice bd lbd cbd, .slice ed led ced] else css i) from by
        refine ⟨HB6.out.only h69 (fun e => by rcases e with e | e; omega; have := hu5lo _ e; omega), ?_, ?_, ?_, ?_⟩
        · rw [HSM.out]
          refine own_only HR6.out h69 fun q hq e => ?_
          rcases e with e | e
          · have := (HR6.out.lt q hq).1; omega
          · rcases own_ne HR6.out HU6.out (by decide) with h | h
            · rw [h] at hq; cases hq
            · exact h (hq.trans e.symm)
        · rw [flat_more]
          exact HO9.out
        · intro i hi
          by_cases e : i = j
          · subst e
            rw [if_pos rfl]
            refine ⟨X, HX.out.kept h9.size fun b hX hb => ⟨hX, h9.block b hb fun h => ?_⟩, fun b hX => ?_⟩
            · have := hu5lt b h; have := HXB.out b hX; omega
            · have h1 := HXB.out b hX
              refine ⟨by omega, by omega, fun h => ?_, fun h => ?_⟩
              · have := hv5lt b h; omega
              · rcases HA9.out with h2 | h2
                · rw [h2] at h; have := hu5lt b h; omega
                · rw [h2] at h; simp at h; omega
          · rw [if_neg e]
            have p6 : PIn (w.heap.size + 1) W6 (.slice a5 (j + 1) c5) u5 (parts i) (css i) := (HINV.out.pin i (by omega)).only HO6.out (fun b hb => by rcases hb with hb | hb | hb; (left; omega); (left; omega); exact .inr (.inl hb)) HA5.out (.inl rfl)
            refine p6.only h69 (fun b hb => by rcases hb with hb | hb; (left; omega); exact .inr (.inr hb)) (.inl rfl) ?_
            rcases HA9.out with h2 | h2
            · exact .inl h2
            · exact .inr ⟨_, h2, by omega⟩
        · have e : p + ((enc n).length + (esB l parts j).length) + ((enc m).length) + (parts j).bytes.length = p + ((enc n).length + (esB l parts (j + 1)).length) := by rw [HWM.out, List.length_append, List.length_append, hwl]; omega
          have h1 := readto_new (readto_trans HT6.out HT7.out) (.cells #[.int .i64 kd, .int .i64 nd, .string sd, .slice ad lad cad, .slice bd lbd cbd, .slice ed led ced] 26)
          rw [e] at h1
          exact readto_grown h1 hgl HF.out HG9.out fun q hq => by have := hu5lo q hq; omega)
      go_wp2_with fail
      go_roundw
      case rel => exact ⟨j + 1, _, _, by omega, by go_num, HN2.out⟩
      case measure => simp [intOf] <;> omega
    · obtain rfl : j = n := by omega
      have hb2 : Row (wr.setCell ⟨w.heap.size, 0, none⟩ (.slice a j cv)) w.heap.size 23 [.slice a j cv] := HINV.out.box.set 0 _
      have hbc := HINV.out.box.cell (k := 0) rfl
      have hbf := HINV.out.box.free 0
      have hbc2 := hb2.cell (k := 0) rfl
      have hres : Tryz.f76.results = #[.cell 4 23, .tmp 5] := by kernel_rfl
      have hO : Only (fun q => q = w.heap.size) wr (wr.setCell ⟨w.heap.size, 0, none⟩ (.slice a j cv)) := Only.setCell (S := fun q => q = w.heap.size) (Only.refl _ _) (.inl rfl) _
      have HFIN := Lib.hid (show REi w (wr.setCell ⟨w.heap.size, 0, none⟩ (.slice a j cv)) g A c F k (p + ((enc j).length + (esB l parts j).length)) l parts j (.slice a j cv) u5 css from
        ⟨hb2, own_set_ HINV.out.row (by show w.heap.size < _; omega) _, own_set_ HINV.out.prow (by show w.heap.size < _; omega) _, fun i hi => (HINV.out.pin i hi).only hO (fun b hb => .inl (by have h2 : b = w.heap.size := hb; omega)) (.inl rfl) (.inl rfl),
          ⟨HINV.out.rd.rr.only hO (by show ¬ g = w.heap.size; omega) (fun q hq e => by have h1 := HF.out q hq; have h2 : q = w.heap.size := e; omega), HINV.out.rd.only.trans hO fun q hq e => by have h2 : q = w.heap.size := e; omega⟩⟩)
      go_wp2_with fail
      (try simp only [Exit.inBlock, Exit.then])
      refine bodyPost_ret (v := .tuple #[.slice a j cv, u5]) ?_ rfl ⟨_, _, _, rfl, HFIN.out⟩
      simp only [results, hres]
      go_simp
end

section
set_option maxRecDepth 100000
set_option linter.unusedSimpArgs false
set_option linter.unusedVariables false
open Go.RowKit

theorem rbyte_at {k R : List UInt8} {p : Nat} {x : UInt8} (h : k.drop p = x :: R) : rbyte k p = (x, p + 1, 0) := by
  unfold rbyte
  have : k[p]? = some x := by
    have e : (k.drop p)[0]? = some x := by rw [h]; rfl
    rw [List.getElem?_drop] at e
    simpa using e
  rw [this]
theorem rbool_at {k R : List UInt8} {p : Nat} {x : UInt8} (h : k.drop p = x :: R) (hx : ¬ 1 < x.toNat) : rbool k p = (x.toNat == 1, p + 1, 0) := by
  unfold rbool
  have : k[p]? = some x := by
    have e : (k.drop p)[0]? = some x := by rw [h]; rfl
    rw [List.getElem?_drop] at e
    simpa using e
  rw [this]
  simp only
  rw [if_neg hx]
theorem rint_at {k R : List UInt8} {p : Nat} {n : Int} (h : k.drop p = enc (zig n) ++ R) (hz : zig n < 18446744073709551616) : rint k p = (n, p + (enc (zig n)).length, 0) := by
  unfold rint
  rw [rnum_at h hz (by omega)]
  simp only
  rw [unzig_zig]
theorem empty_of_size {s : ByteArray} (h : s.size = 0) : s = { data := #[] } := by
  cases s with
  | mk d =>
    have : d.size = 0 := h
    rw [Array.eq_empty_of_size_eq_zero this]
/-- What reading a value leaves. -/
def ReadV (w : World) (g : Nat) (A : Option Addr) (c : Nat) (F : Nat → Prop) (k : List UInt8) (q : Nat) (s : Vt) (e : Ending) (w' : World) : Prop :=
  ∃ cs, e = .returned (.agg cs.toArray) ∧ (∃ X, VIn X w' s cs ∧ ∀ b, X b → w.heap.size ≤ b ∧ b < w'.heap.size) ∧ Readto w w' g A c F k q 0
theorem readV_end {w0 w w' : World} {g : Nat} {A : Option Addr} {c : Nat} {F : Nat → Prop} {k : List UInt8} {q : Nat} {s : Vt} {cs : List Value} {X : Nat → Prop} {r : Nat}
    (hs : VIn X w' s cs) (hX : ∀ b, X b → r < b ∧ b < w'.heap.size) (ht : Readto w w' g A c F k q 0) (hr : w.heap.size ≤ r) (hg : g < w.heap.size) (hF : ∀ j, F j → j < g) :
    ReadV w g A c F k q s (.returned (.agg cs.toArray)) (w'.setRow r cs.toArray) := by
  have hO : Only (fun j => j = r) w' (w'.setRow r cs.toArray) := only_setRow w' r cs.toArray
  refine ⟨cs, rfl, ⟨X, hs.kept hO.size fun b hb hlt => ⟨hb, hO.block b hlt fun e => ?_⟩, fun b hb => ?_⟩, ⟨ht.rr.only hO (by omega) (fun j hj e => by have := hF j hj; omega), ht.only.trans hO fun j hj e => by omega⟩⟩
  · have := hX b hb; have e' : b = r := e; omega
  · have := hX b hb; have := hO.size; omega
theorem v_one (k n : Int) (s : ByteArray) (a : Option Addr) (la ca : Nat) (b : Option Addr) (lb cb : Nat) (c : Option Addr) (lc cc : Nat) : (#[Value.int .i64 k, .int .i64 n, .string s, .slice a la ca, .slice b lb cb, .slice c lc cc].all fun x : Value => x.oneCell') = true := by simp [Value.oneCell']

/-- The world behind the first region: boxes of the reader and of the depth, and the result. -/
noncomputable abbrev rW (g d : Nat) (w : World) : World := ((w.alloc (.cells #[.pointer (some ⟨g, 0, none⟩)] 80)).alloc (.cells #[.int .i64 (d : Int)] 3)).alloc (.cells #[.int .i64 0, .int .i64 0, .string { data := #[] }, .slice none 0 0, .slice none 0 0, .slice none 0 0] 26)
theorem rW_0 (g d : Nat) (w : World) : Row (rW g d w) w.heap.size 80 [.pointer (some ⟨g, 0, none⟩)] := ((Row.new w [.pointer (some ⟨g, 0, none⟩)] 80).alloc _).alloc _
theorem rW_1 (g d : Nat) (w : World) : Row (rW g d w) (w.heap.size + 1) 3 [.int .i64 (d : Int)] := (Row.new1 w (.cells #[.pointer (some ⟨g, 0, none⟩)] 80) [.int .i64 (d : Int)] 3).alloc _
theorem rW_2 (g d : Nat) (w : World) : Row (rW g d w) (w.heap.size + 1 + 1) 26 [.int .i64 0, .int .i64 0, .string { data := #[] }, .slice none 0 0, .slice none 0 0, .slice none 0 0] := Row.new2 w _ _ [.int .i64 0, .int .i64 0, .string { data := #[] }, .slice none 0 0, .slice none 0 0, .slice none 0 0] 26
theorem rW_below (g d : Nat) (w : World) : Below w.heap.size w (rW g d w) := Below.alloc3 w _ _ _
theorem vk_rd {w : World} {B B0 : Nat} {a : Option Addr} {n : Nat} {l : List Value} (h : Rd w (fun g => B ≤ g) a n l) (hB : B0 ≤ B) : Rd w (fun b => B0 ≤ b ∧ b < w.heap.size) a n l := ⟨h.1, fun hn => by
  obtain ⟨ad, e, hx, hlt, hc⟩ := h.2 hn
  exact ⟨ad, e, ⟨Nat.le_trans hB hx, hlt⟩, hlt, hc⟩⟩
theorem vk_px {w : World} {B B0 s : Nat} {c : Option Addr} {n : Nat} {css : Nat → List Value} (h : PartsX (fun g => B ≤ g) w s c n css) (hB : B0 ≤ B) : PartsX (fun b => B0 ≤ b ∧ b < w.heap.size) w s c n css := fun hn => by
  obtain ⟨ad, e, hx, hlt, hc⟩ := h hn
  exact ⟨ad, e, ⟨Nat.le_trans hB hx, hlt⟩, hlt, hc⟩
theorem readto_setc {g : Nat} {A : Option Addr} {c : Nat} {F : Nat → Prop} {k : List UInt8} {q : Nat} {d : Int} {w w' : World} (h : Readto w w' g A c F k q d) {p : Addr} (hp : w.heap.size ≤ p.block) (hg : g < w.heap.size) (hF : ∀ j, F j → j < g) (u : Value) : Readto w (w'.setCell p u) g A c F k q d := by
  have hO : Only (fun b => b = p.block) w' (w'.setCell p u) := Only.setCell (S := fun b => b = p.block) (Only.refl _ _) (.inl rfl) u
  exact ⟨h.rr.only hO (by omega) (fun j hj e => by have := hF j hj; omega), h.only.trans hO fun j hj e => by omega⟩
theorem words_size {l : List ByteArray} (h : ∀ i, i < l.length → (nth l i).size ≤ 64) : ∀ x ∈ l, x.size ≤ maxLen := fun x hx => by
  obtain ⟨i, hi, rfl⟩ := List.getElem_of_mem hx
  have := h i hi
  unfold nth at this
  simp [hi] at this
  unfold maxLen
  omega
section
variable (g : Nat) (A : Option Addr) (c : Nat) (F : Nat → Prop) (k : List UInt8)
theorem nasked_ (p : Nat) (s : ByteArray) (R : List UInt8) (w : World) (h : Rr w g A c F k p 0) (hk : k.drop p = enc s.size ++ (s.data.toList ++ R)) (hs : nameB s = true) :
    Calls Tryz.prog 95 #[.pointer (some ⟨g, 0, none⟩), .func (.func 96) #[] #[], .func (.func 74) #[] #[]] w fun e w' => e = .returned (.string s) ∧ Readto w w' g A c F k (p + ((enc s.size).length + s.size)) 0 := by
  have hsz := nameB_sz hs
  have HR := Lib.hid (sread_any g A c F k p s R w h hk (by omega))
  have hn := fun wx => vname_any s (by unfold maxLen; omega) wx
  simp only [hs] at hn
  have HA := Lib.hid hn
  clear h hk hs hn
  go_enter Tryz.func95, Tryz.ntmps95
  go_wp2_with fail
  refine HR.out.mono ?_
  rintro e W1 ⟨rfl, hto⟩
  have HT := Lib.hid hto
  clear hto
  go_wp2_with fail
  refine (HA.out W1).mono ?_
  rintro e W2 ⟨rfl, rfl⟩
  go_wp2_with fail
  go_ret
  exact ⟨rfl, HT.out⟩
theorem nword_ (p : Nat) (s : ByteArray) (R : List UInt8) (w : World) (h : Rr w g A c F k p 0) (hk : k.drop p = enc s.size ++ (s.data.toList ++ R)) (hs : nameB s = true) :
    Calls Tryz.prog 73 #[.pointer (some ⟨g, 0, none⟩), .func (.func 74) #[] #[]] w fun e w' => e = .returned (.string s) ∧ Readto w w' g A c F k (p + ((enc s.size).length + s.size)) 0 := by
  have HA := Lib.hid (nasked_ g A c F k p s R w h hk hs)
  clear h hk hs
  go_enter Tryz.func73, Tryz.ntmps73
  go_wp2_with fail
  refine HA.out.mono ?_
  rintro e W1 ⟨rfl, hto⟩
  have HT := Lib.hid hto
  clear hto
  go_wp2_with fail
  go_ret
  exact ⟨rfl, HT.out⟩
/-- Contract of reading at a depth. -/
def ReadsAt (s : Vt) (d : Nat) : Prop := ∀ (p : Nat) (R : List UInt8) (w : World), Rr w g A c F k p 0 → k.drop p = s.bytes ++ R →
  Calls Tryz.prog 43 #[.pointer (some ⟨g, 0, none⟩), .int .i64 (d : Int)] w (ReadV w g A c F k (p + s.bytes.length) s)

set_option maxHeartbeats 1600000 in
theorem readpart_any (hF : ∀ j, F j → j < g) (s : Vt) (d : Nat) (hd : d ≤ 1000) (H : ReadsAt g A c F k s (d + 1)) (b0 b1 p : Nat) (R : List UInt8) (w : World) (h : Rr w g A c F k p 0) (hk : k.drop p = s.bytes ++ R)
    (h0 : w.cell? ⟨b0, 0, none⟩ = some (.pointer (some ⟨g, 0, none⟩))) (h1 : w.cell? ⟨b1, 0, none⟩ = some (.int .i64 (d : Int))) :
    Calls Tryz.prog 69 #[.pointer (some ⟨b0, 0, none⟩), .pointer (some ⟨b1, 0, none⟩)] w (ReadV w g A c F k (p + s.bytes.length) s) := by
  have hgl := h.lt
  have HC := Lib.hid (H p R (w.alloc (.cells #[.int .i64 0, .int .i64 0, .string { data := #[] }, .slice none 0 0, .slice none 0 0, .slice none 0 0] 26)) (h.below (below_new w _)) hk)
  have HR := Lib.hid (Row.new w [.int .i64 0, .int .i64 0, .string { data := #[] }, .slice none 0 0, .slice none 0 0, .slice none 0 0] 26)
  have bd : (d : Int) ≤ 1000 := by omega
  have bd0 : (0 : Int) ≤ (d : Int) := by omega
  have ed : ((d + 1 : Nat) : Int) = (d : Int) + 1 := by omega
  rw [ed] at HC
  have HFF := Lib.hid hF
  have l0 := lt_of_cell h0
  have l1 := lt_of_cell h1
  have h0' := ((below_new w (.cells #[.int .i64 0, .int .i64 0, .string { data := #[] }, .slice none 0 0, .slice none 0 0, .slice none 0 0] 26)).cell (p := ⟨b0, 0, none⟩) l0).trans h0
  have h1' := ((below_new w (.cells #[.int .i64 0, .int .i64 0, .string { data := #[] }, .slice none 0 0, .slice none 0 0, .slice none 0 0] 26)).cell (p := ⟨b1, 0, none⟩) l1).trans h1
  clear h hk H hF ed h0 h1
  go_enter Tryz.func69, Tryz.ntmps69
  go_wp2_with fail
  refine HC.out.mono ?_
  rintro e W1 ⟨cs, rfl, ⟨X, hX, hXb⟩, hto⟩
  have hr1 : Row W1 w.heap.size 26 [.int .i64 0, .int .i64 0, .string { data := #[] }, .slice none 0 0, .slice none 0 0, .slice none 0 0] := HR.out.only hto.only (by omega)
  have HR1 := Lib.hid hr1
  have HE := Lib.hid (readV_end (w0 := w) hX (r := w.heap.size) (fun b hb => by have := hXb b hb; simp at this; omega) (readto_from hto) (Nat.le_refl _) hgl HFF.out)
  obtain ⟨kd, nd, sd, ad, lad, cad, bd2, lbd, cbd, ed2, led, ced, rfl⟩ := hX.form
  clear hX hXb hto hr1
  go_wp2_with (refine wpList_store_row rfl 26 (.tmp 2) (.tmp 6) rfl w.heap.size #[.int .i64 kd, .int .i64 nd, .string sd, .slice ad lad cad, .slice bd2 lbd cbd, .slice ed2 led ced] rfl rfl 26 _ HR1.out (v_info (cs := [.int .i64 0, .int .i64 0, .string { data := #[] }, .slice none 0 0, .slice none 0 0, .slice none 0 0]) rfl) rfl (v_one _ _ _ _ _ _ _ _ _ _ _ _) ?_)
  have hgot : (W1.setRow w.heap.size #[.int .i64 kd, .int .i64 nd, .string sd, .slice ad lad cad, .slice bd2 lbd cbd, .slice ed2 led ced]).heap[w.heap.size]? = some (.cells #[.int .i64 kd, .int .i64 nd, .string sd, .slice ad lad cad, .slice bd2 lbd cbd, .slice ed2 led ced] 26 (0, 0)) := setRow_heap W1 _ _ _ _ _ HR1.out
  (try simp only [Exit.inBlock, Exit.then])
  refine bodyPost_ret (results_cell_row (by rfl) _ _ w.heap.size _ _ _ _ (by rfl) hgot Tryz.underlying26 rfl (v_info (cs := [.int .i64 kd, .int .i64 nd, .string sd, .slice ad lad cad, .slice bd2 lbd cbd, .slice ed2 led ced]) rfl)) rfl ?_
  exact HE.out

set_option maxHeartbeats 3200000 in
theorem zread_10 (hF : ∀ j, F j → j < g) (d : Nat) (hd : d ≤ 5) (parts : Nat → Vt) (p : Nat) (R : List UInt8) (w : World) (h : Rr w g A c F k p 0) (hk : k.drop p = [1] ++ ([0] ++ R)) :
    Calls Tryz.prog 43 #[.pointer (some ⟨g, 0, none⟩), .int .i64 (d : Int)] w (ReadV w g A c F k (p + 1 + 1) (.mk 1 0 { data := #[] } [] [] 0 parts)) := by
  have hgl := h.lt
  have HB := Lib.hid (show Calls Tryz.prog 68 #[.pointer (some ⟨g, 0, none⟩)] (rW g d w) fun e w' => e = .returned (.int .u8 1) ∧ Readto (rW g d w) w' g A c F k (p + 1) 0 from by
    have h1 := rbyte_ok g A c F k p (rW g d w) (h.below (rW_below g d w))
    rw [rbyte_at (x := 1) hk] at h1
    exact h1)
  have HK := Lib.hid (show k.drop (p + 1) = _ from drop_more hk)
  have HFF := Lib.hid hF
  have bd : ¬ (5 : Int) < (d : Int) := by omega
  have bd0 : (0 : Int) ≤ (d : Int) := by omega
  have bd1 : (d : Int) ≤ 5 := by omega
  have R0 := Lib.hid (rW_0 g d w)
  have R1 := Lib.hid (rW_1 g d w)
  have R2 := Lib.hid (rW_2 g d w)
  have RB := Lib.hid (rW_below g d w)
  clear h hk hF
  go_enter Tryz.func43, Tryz.ntmps43
  go_wp2_with fail
  refine HB.out.mono ?_
  rintro e W1 ⟨rfl, hto⟩
  have hs3 : (rW g d w).heap.size = w.heap.size + 1 + 1 + 1 := by simp
  have hsz := hto.only.size
  rw [hs3] at hsz
  have r0 := R0.out.only hto.only (by omega)
  have r1 := R1.out.only hto.only (by omega)
  have r2 := R2.out.only hto.only (by omega)
  have HT1 := Lib.hid (readto_new (hto.after RB.out) (.cells #[.int .i64 1, .int .i64 0, .string { data := #[] }, .slice none 0 0, .slice none 0 0, .slice none 0 0] 26))
  have HR0 := Lib.hid (r0.alloc (.cells #[.int .i64 1, .int .i64 0, .string { data := #[] }, .slice none 0 0, .slice none 0 0, .slice none 0 0] 26))
  have HR1 := Lib.hid (r1.alloc (.cells #[.int .i64 1, .int .i64 0, .string { data := #[] }, .slice none 0 0, .slice none 0 0, .slice none 0 0] 26))
  have HR2 := Lib.hid (r2.alloc (.cells #[.int .i64 1, .int .i64 0, .string { data := #[] }, .slice none 0 0, .slice none 0 0, .slice none 0 0] 26))
  have HN := Lib.hid (Row.new W1 [.int .i64 1, .int .i64 0, .string { data := #[] }, .slice none 0 0, .slice none 0 0, .slice none 0 0] 26)
  have n0 := HN.out.cell (k := 0) rfl
  have c0 := HR0.out.cell (k := 0) rfl
  clear hto r0 r1 r2
  have HC := Lib.hid ((show Calls Tryz.prog 70 #[.pointer (some ⟨g, 0, none⟩)] (W1.alloc (.cells #[.int .i64 1, .int .i64 0, .string { data := #[] }, .slice none 0 0, .slice none 0 0, .slice none 0 0] 26)) fun e w' => e = .returned (.bool false) ∧ Readto (W1.alloc (.cells #[.int .i64 1, .int .i64 0, .string { data := #[] }, .slice none 0 0, .slice none 0 0, .slice none 0 0] 26)) w' g A c F k (p + 1 + 1) 0 from by
    have h1 := rbool_ok g A c F k (p + 1) _ HT1.out.rr
    rw [rbool_at (x := 0) HK.out (by decide)] at h1
    exact h1))
  go_wp2_with fail
  refine HC.out.mono ?_
  rintro e W3 ⟨rfl, hto2⟩
  have hs2 : (W1.alloc (.cells #[.int .i64 1, .int .i64 0, .string { data := #[] }, .slice none 0 0, .slice none 0 0, .slice none 0 0] 26)).heap.size = W1.heap.size + 1 := by simp
  have hs23 := hto2.only.size
  rw [hs2] at hs23
  have hn3 := HN.out.only hto2.only (by omega)
  have HR23 := Lib.hid (HR2.out.only hto2.only (by omega))
  have n3 := hn3.cell (k := 1) rfl
  have n3f := hn3.free 1
  have HT3 := Lib.hid (readto_trans HT1.out hto2)
  have HLD := Lib.hid hn3
  have HRES := HR23
  have HE := Lib.hid (readV_end (w0 := w) (VIn.bare (fun _ => False) W3 1 0 ({ data := #[] } : ByteArray) parts (by decide) (by decide) (by decide)) (r := w.heap.size + 1 + 1) (fun b hb => hb.elim) HT3.out (by omega) hgl HFF.out)
  clear hto2 hn3
  go_wp2_with (first | (refine wpList_load_row rfl 26 (.tmp 5) rfl W1.heap.size rfl 26 _ (0, 0) _ HLD.out Tryz.underlying26 rfl (v_info (cs := [.int .i64 1, .int .i64 0, .string { data := #[] }, .slice none 0 0, .slice none 0 0, .slice none 0 0]) rfl) ?_) | (refine wpList_store_row rfl 26 (.tmp 4) (.tmp 60) rfl (w.heap.size + 1 + 1) #[.int .i64 1, .int .i64 0, .string { data := #[] }, .slice none 0 0, .slice none 0 0, .slice none 0 0] rfl rfl 26 _ HRES.out (v_info (cs := [.int .i64 0, .int .i64 0, .string { data := #[] }, .slice none 0 0, .slice none 0 0, .slice none 0 0]) rfl) rfl (v_one _ _ _ _ _ _ _ _ _ _ _ _) ?_))
  have hgot : (W3.setRow (w.heap.size + 1 + 1) #[.int .i64 1, .int .i64 0, .string { data := #[] }, .slice none 0 0, .slice none 0 0, .slice none 0 0]).heap[w.heap.size + 1 + 1]? = some (.cells #[.int .i64 1, .int .i64 0, .string { data := #[] }, .slice none 0 0, .slice none 0 0, .slice none 0 0] 26 (0, 0)) := setRow_heap W3 _ _ _ _ _ HRES.out
  (try simp only [Exit.inBlock, Exit.then])
  refine bodyPost_ret (results_cell_row (by rfl) _ _ (w.heap.size + 1 + 1) _ _ _ _ (by rfl) hgot Tryz.underlying26 rfl (v_info (cs := [.int .i64 1, .int .i64 0, .string { data := #[] }, .slice none 0 0, .slice none 0 0, .slice none 0 0]) rfl)) rfl ?_
  exact HE.out

set_option maxHeartbeats 3200000 in
theorem zread_11 (hF : ∀ j, F j → j < g) (d : Nat) (hd : d ≤ 5) (parts : Nat → Vt) (p : Nat) (R : List UInt8) (w : World) (h : Rr w g A c F k p 0) (hk : k.drop p = [1] ++ ([1] ++ R)) :
    Calls Tryz.prog 43 #[.pointer (some ⟨g, 0, none⟩), .int .i64 (d : Int)] w (ReadV w g A c F k (p + 1 + 1) (.mk 1 1 { data := #[] } [] [] 0 parts)) := by
  have hgl := h.lt
  have HB := Lib.hid (show Calls Tryz.prog 68 #[.pointer (some ⟨g, 0, none⟩)] (rW g d w) fun e w' => e = .returned (.int .u8 1) ∧ Readto (rW g d w) w' g A c F k (p + 1) 0 from by
    have h1 := rbyte_ok g A c F k p (rW g d w) (h.below (rW_below g d w))
    rw [rbyte_at (x := 1) hk] at h1
    exact h1)
  have HK := Lib.hid (show k.drop (p + 1) = _ from drop_more hk)
  have HFF := Lib.hid hF
  have bd : ¬ (5 : Int) < (d : Int) := by omega
  have bd0 : (0 : Int) ≤ (d : Int) := by omega
  have bd1 : (d : Int) ≤ 5 := by omega
  have R0 := Lib.hid (rW_0 g d w)
  have R1 := Lib.hid (rW_1 g d w)
  have R2 := Lib.hid (rW_2 g d w)
  have RB := Lib.hid (rW_below g d w)
  clear h hk hF
  go_enter Tryz.func43, Tryz.ntmps43
  go_wp2_with fail
  refine HB.out.mono ?_
  rintro e W1 ⟨rfl, hto⟩
  have hs3 : (rW g d w).heap.size = w.heap.size + 1 + 1 + 1 := by simp
  have hsz := hto.only.size
  rw [hs3] at hsz
  have r0 := R0.out.only hto.only (by omega)
  have r1 := R1.out.only hto.only (by omega)
  have r2 := R2.out.only hto.only (by omega)
  have HT1 := Lib.hid (readto_new (hto.after RB.out) (.cells #[.int .i64 1, .int .i64 0, .string { data := #[] }, .slice none 0 0, .slice none 0 0, .slice none 0 0] 26))
  have HR0 := Lib.hid (r0.alloc (.cells #[.int .i64 1, .int .i64 0, .string { data := #[] }, .slice none 0 0, .slice none 0 0, .slice none 0 0] 26))
  have HR1 := Lib.hid (r1.alloc (.cells #[.int .i64 1, .int .i64 0, .string { data := #[] }, .slice none 0 0, .slice none 0 0, .slice none 0 0] 26))
  have HR2 := Lib.hid (r2.alloc (.cells #[.int .i64 1, .int .i64 0, .string { data := #[] }, .slice none 0 0, .slice none 0 0, .slice none 0 0] 26))
  have HN := Lib.hid (Row.new W1 [.int .i64 1, .int .i64 0, .string { data := #[] }, .slice none 0 0, .slice none 0 0, .slice none 0 0] 26)
  have n0 := HN.out.cell (k := 0) rfl
  have c0 := HR0.out.cell (k := 0) rfl
  clear hto r0 r1 r2
  have HC := Lib.hid ((show Calls Tryz.prog 70 #[.pointer (some ⟨g, 0, none⟩)] (W1.alloc (.cells #[.int .i64 1, .int .i64 0, .string { data := #[] }, .slice none 0 0, .slice none 0 0, .slice none 0 0] 26)) fun e w' => e = .returned (.bool true) ∧ Readto (W1.alloc (.cells #[.int .i64 1, .int .i64 0, .string { data := #[] }, .slice none 0 0, .slice none 0 0, .slice none 0 0] 26)) w' g A c F k (p + 1 + 1) 0 from by
    have h1 := rbool_ok g A c F k (p + 1) _ HT1.out.rr
    rw [rbool_at (x := 1) HK.out (by decide)] at h1
    exact h1))
  go_wp2_with fail
  refine HC.out.mono ?_
  rintro e W3 ⟨rfl, hto2⟩
  have hs2 : (W1.alloc (.cells #[.int .i64 1, .int .i64 0, .string { data := #[] }, .slice none 0 0, .slice none 0 0, .slice none 0 0] 26)).heap.size = W1.heap.size + 1 := by simp
  have hs23 := hto2.only.size
  rw [hs2] at hs23
  have hn3 := HN.out.only hto2.only (by omega)
  have HR23 := Lib.hid (HR2.out.only hto2.only (by omega))
  have n3 := hn3.cell (k := 1) rfl
  have n3f := hn3.free 1
  have HT3 := Lib.hid (readto_setc (readto_trans HT1.out hto2) (p := ⟨W1.heap.size, 1, none⟩) (show w.heap.size ≤ W1.heap.size by omega) hgl HFF.out (.int .i64 1))
  have HLD := Lib.hid (show Row (W3.setCell ⟨W1.heap.size, 1, none⟩ (.int .i64 1)) W1.heap.size 26 [.int .i64 1, .int .i64 1, .string { data := #[] }, .slice none 0 0, .slice none 0 0, .slice none 0 0] from hn3.set 1 _)
  have HRES := Lib.hid (show Row (W3.setCell ⟨W1.heap.size, 1, none⟩ (.int .i64 1)) (w.heap.size + 1 + 1) 26 [.int .i64 0, .int .i64 0, .string { data := #[] }, .slice none 0 0, .slice none 0 0, .slice none 0 0] from
    HR23.out.only (Only.setCell (S := fun b => b = W1.heap.size) (Only.refl _ _) (.inl rfl) _) (by omega))
  have HE := Lib.hid (readV_end (w0 := w) (VIn.bare (fun _ => False) (W3.setCell ⟨W1.heap.size, 1, none⟩ (.int .i64 1)) 1 1 ({ data := #[] } : ByteArray) parts (by decide) (by decide) (by decide)) (r := w.heap.size + 1 + 1) (fun b hb => hb.elim) HT3.out (by omega) hgl HFF.out)
  clear hto2 hn3
  go_wp2_with (first | (refine wpList_load_row rfl 26 (.tmp 5) rfl W1.heap.size rfl 26 _ (0, 0) _ HLD.out Tryz.underlying26 rfl (v_info (cs := [.int .i64 1, .int .i64 1, .string { data := #[] }, .slice none 0 0, .slice none 0 0, .slice none 0 0]) rfl) ?_) | (refine wpList_store_row rfl 26 (.tmp 4) (.tmp 60) rfl (w.heap.size + 1 + 1) #[.int .i64 1, .int .i64 1, .string { data := #[] }, .slice none 0 0, .slice none 0 0, .slice none 0 0] rfl rfl 26 _ HRES.out (v_info (cs := [.int .i64 0, .int .i64 0, .string { data := #[] }, .slice none 0 0, .slice none 0 0, .slice none 0 0]) rfl) rfl (v_one _ _ _ _ _ _ _ _ _ _ _ _) ?_))
  have hgot : ((W3.setCell ⟨W1.heap.size, 1, none⟩ (.int .i64 1)).setRow (w.heap.size + 1 + 1) #[.int .i64 1, .int .i64 1, .string { data := #[] }, .slice none 0 0, .slice none 0 0, .slice none 0 0]).heap[w.heap.size + 1 + 1]? = some (.cells #[.int .i64 1, .int .i64 1, .string { data := #[] }, .slice none 0 0, .slice none 0 0, .slice none 0 0] 26 (0, 0)) := setRow_heap (W3.setCell ⟨W1.heap.size, 1, none⟩ (.int .i64 1)) _ _ _ _ _ HRES.out
  (try simp only [Exit.inBlock, Exit.then])
  refine bodyPost_ret (results_cell_row (by rfl) _ _ (w.heap.size + 1 + 1) _ _ _ _ (by rfl) hgot Tryz.underlying26 rfl (v_info (cs := [.int .i64 1, .int .i64 1, .string { data := #[] }, .slice none 0 0, .slice none 0 0, .slice none 0 0]) rfl)) rfl ?_
  exact HE.out

set_option maxHeartbeats 3200000 in
theorem zread_2 (hF : ∀ j, F j → j < g) (d : Nat) (hd : d ≤ 5) (n : Int) (parts : Nat → Vt) (hnw : (Lit.int .i64 n).wf = true) (p : Nat) (R : List UInt8) (w : World) (h : Rr w g A c F k p 0) (hk : k.drop p = [2] ++ (enc (zig n) ++ R)) :
    Calls Tryz.prog 43 #[.pointer (some ⟨g, 0, none⟩), .int .i64 (d : Int)] w (ReadV w g A c F k (p + 1 + (enc (zig n)).length) (.mk 2 n { data := #[] } [] [] 0 parts)) := by
  have hgl := h.lt
  have HB := Lib.hid (show Calls Tryz.prog 68 #[.pointer (some ⟨g, 0, none⟩)] (rW g d w) fun e w' => e = .returned (.int .u8 2) ∧ Readto (rW g d w) w' g A c F k (p + 1) 0 from by
    have h1 := rbyte_ok g A c F k p (rW g d w) (h.below (rW_below g d w))
    rw [rbyte_at (x := 2) hk] at h1
    exact h1)
  have HK := Lib.hid (show k.drop (p + 1) = _ from drop_more hk)
  have HFF := Lib.hid hF
  have bd : ¬ (5 : Int) < (d : Int) := by omega
  have bd0 : (0 : Int) ≤ (d : Int) := by omega
  have bd1 : (d : Int) ≤ 5 := by omega
  have R0 := Lib.hid (rW_0 g d w)
  have R1 := Lib.hid (rW_1 g d w)
  have R2 := Lib.hid (rW_2 g d w)
  have RB := Lib.hid (rW_below g d w)
  clear h hk hF
  have hz := zig_lt (wf_i64_le hnw).1 (wf_i64_le hnw).2
  go_enter Tryz.func43, Tryz.ntmps43
  go_wp2_with fail
  refine HB.out.mono ?_
  rintro e W1 ⟨rfl, hto⟩
  have hs3 : (rW g d w).heap.size = w.heap.size + 1 + 1 + 1 := by simp
  have hsz := hto.only.size
  rw [hs3] at hsz
  have r0 := R0.out.only hto.only (by omega)
  have r1 := R1.out.only hto.only (by omega)
  have r2 := R2.out.only hto.only (by omega)
  have HT1 := Lib.hid (readto_new (hto.after RB.out) (.cells #[.int .i64 2, .int .i64 0, .string { data := #[] }, .slice none 0 0, .slice none 0 0, .slice none 0 0] 26))
  have HR0 := Lib.hid (r0.alloc (.cells #[.int .i64 2, .int .i64 0, .string { data := #[] }, .slice none 0 0, .slice none 0 0, .slice none 0 0] 26))
  have HR1 := Lib.hid (r1.alloc (.cells #[.int .i64 2, .int .i64 0, .string { data := #[] }, .slice none 0 0, .slice none 0 0, .slice none 0 0] 26))
  have HR2 := Lib.hid (r2.alloc (.cells #[.int .i64 2, .int .i64 0, .string { data := #[] }, .slice none 0 0, .slice none 0 0, .slice none 0 0] 26))
  have HN := Lib.hid (Row.new W1 [.int .i64 2, .int .i64 0, .string { data := #[] }, .slice none 0 0, .slice none 0 0, .slice none 0 0] 26)
  have n0 := HN.out.cell (k := 0) rfl
  have c0 := HR0.out.cell (k := 0) rfl
  clear hto r0 r1 r2
  have HC := Lib.hid ((show Calls Tryz.prog 71 #[.pointer (some ⟨g, 0, none⟩)] (W1.alloc (.cells #[.int .i64 2, .int .i64 0, .string { data := #[] }, .slice none 0 0, .slice none 0 0, .slice none 0 0] 26)) fun e w' => e = .returned (.int .i64 n) ∧ Readto (W1.alloc (.cells #[.int .i64 2, .int .i64 0, .string { data := #[] }, .slice none 0 0, .slice none 0 0, .slice none 0 0] 26)) w' g A c F k (p + 1 + (enc (zig n)).length) 0 from by
    have h1 := rint_any g A c F k (p + 1) _ HT1.out.rr
    rw [rint_at HK.out hz] at h1
    exact h1))
  go_wp2_with fail
  refine HC.out.mono ?_
  rintro e W3 ⟨rfl, hto2⟩
  have hs2 : (W1.alloc (.cells #[.int .i64 2, .int .i64 0, .string { data := #[] }, .slice none 0 0, .slice none 0 0, .slice none 0 0] 26)).heap.size = W1.heap.size + 1 := by simp
  have hs23 := hto2.only.size
  rw [hs2] at hs23
  have hn3 := HN.out.only hto2.only (by omega)
  have HR23 := Lib.hid (HR2.out.only hto2.only (by omega))
  have n3 := hn3.cell (k := 1) rfl
  have n3f := hn3.free 1
  have HT3 := Lib.hid (readto_setc (readto_trans HT1.out hto2) (p := ⟨W1.heap.size, 1, none⟩) (show w.heap.size ≤ W1.heap.size by omega) hgl HFF.out (.int .i64 n))
  have HLD := Lib.hid (show Row (W3.setCell ⟨W1.heap.size, 1, none⟩ (.int .i64 n)) W1.heap.size 26 [.int .i64 2, .int .i64 n, .string { data := #[] }, .slice none 0 0, .slice none 0 0, .slice none 0 0] from hn3.set 1 _)
  have HRES := Lib.hid (show Row (W3.setCell ⟨W1.heap.size, 1, none⟩ (.int .i64 n)) (w.heap.size + 1 + 1) 26 [.int .i64 0, .int .i64 0, .string { data := #[] }, .slice none 0 0, .slice none 0 0, .slice none 0 0] from
    HR23.out.only (Only.setCell (S := fun b => b = W1.heap.size) (Only.refl _ _) (.inl rfl) _) (by omega))
  have HE := Lib.hid (readV_end (w0 := w) (VIn.bare (fun _ => False) (W3.setCell ⟨W1.heap.size, 1, none⟩ (.int .i64 n)) 2 n ({ data := #[] } : ByteArray) parts (by decide) hnw (by decide)) (r := w.heap.size + 1 + 1) (fun b hb => hb.elim) HT3.out (by omega) hgl HFF.out)
  clear hto2 hn3
  go_wp2_with (first | (refine wpList_load_row rfl 26 (.tmp 5) rfl W1.heap.size rfl 26 _ (0, 0) _ HLD.out Tryz.underlying26 rfl (v_info (cs := [.int .i64 2, .int .i64 n, .string { data := #[] }, .slice none 0 0, .slice none 0 0, .slice none 0 0]) rfl) ?_) | (refine wpList_store_row rfl 26 (.tmp 4) (.tmp 60) rfl (w.heap.size + 1 + 1) #[.int .i64 2, .int .i64 n, .string { data := #[] }, .slice none 0 0, .slice none 0 0, .slice none 0 0] rfl rfl 26 _ HRES.out (v_info (cs := [.int .i64 0, .int .i64 0, .string { data := #[] }, .slice none 0 0, .slice none 0 0, .slice none 0 0]) rfl) rfl (v_one _ _ _ _ _ _ _ _ _ _ _ _) ?_))
  have hgot : ((W3.setCell ⟨W1.heap.size, 1, none⟩ (.int .i64 n)).setRow (w.heap.size + 1 + 1) #[.int .i64 2, .int .i64 n, .string { data := #[] }, .slice none 0 0, .slice none 0 0, .slice none 0 0]).heap[w.heap.size + 1 + 1]? = some (.cells #[.int .i64 2, .int .i64 n, .string { data := #[] }, .slice none 0 0, .slice none 0 0, .slice none 0 0] 26 (0, 0)) := setRow_heap (W3.setCell ⟨W1.heap.size, 1, none⟩ (.int .i64 n)) _ _ _ _ _ HRES.out
  (try simp only [Exit.inBlock, Exit.then])
  refine bodyPost_ret (results_cell_row (by rfl) _ _ (w.heap.size + 1 + 1) _ _ _ _ (by rfl) hgot Tryz.underlying26 rfl (v_info (cs := [.int .i64 2, .int .i64 n, .string { data := #[] }, .slice none 0 0, .slice none 0 0, .slice none 0 0]) rfl)) rfl ?_
  exact HE.out

set_option maxHeartbeats 3200000 in
theorem zread_3 (hF : ∀ j, F j → j < g) (d : Nat) (hd : d ≤ 5) (s : ByteArray) (parts : Nat → Vt) (hs : s.size ≤ 64) (p : Nat) (R : List UInt8) (w : World) (h : Rr w g A c F k p 0) (hk : k.drop p = [3] ++ (enc s.size ++ (s.data.toList ++ R))) :
    Calls Tryz.prog 43 #[.pointer (some ⟨g, 0, none⟩), .int .i64 (d : Int)] w (ReadV w g A c F k (p + 1 + ((enc s.size).length + s.size)) (.mk 3 0 s [] [] 0 parts)) := by
  have hgl := h.lt
  have HB := Lib.hid (show Calls Tryz.prog 68 #[.pointer (some ⟨g, 0, none⟩)] (rW g d w) fun e w' => e = .returned (.int .u8 3) ∧ Readto (rW g d w) w' g A c F k (p + 1) 0 from by
    have h1 := rbyte_ok g A c F k p (rW g d w) (h.below (rW_below g d w))
    rw [rbyte_at (x := 3) hk] at h1
    exact h1)
  have HK := Lib.hid (show k.drop (p + 1) = _ from drop_more hk)
  have HFF := Lib.hid hF
  have bd : ¬ (5 : Int) < (d : Int) := by omega
  have bd0 : (0 : Int) ≤ (d : Int) := by omega
  have bd1 : (d : Int) ≤ 5 := by omega
  have R0 := Lib.hid (rW_0 g d w)
  have R1 := Lib.hid (rW_1 g d w)
  have R2 := Lib.hid (rW_2 g d w)
  have RB := Lib.hid (rW_below g d w)
  clear h hk hF
  go_enter Tryz.func43, Tryz.ntmps43
  go_wp2_with fail
  refine HB.out.mono ?_
  rintro e W1 ⟨rfl, hto⟩
  have hs3 : (rW g d w).heap.size = w.heap.size + 1 + 1 + 1 := by simp
  have hsz := hto.only.size
  rw [hs3] at hsz
  have r0 := R0.out.only hto.only (by omega)
  have r1 := R1.out.only hto.only (by omega)
  have r2 := R2.out.only hto.only (by omega)
  have HT1 := Lib.hid (readto_new (hto.after RB.out) (.cells #[.int .i64 3, .int .i64 0, .string { data := #[] }, .slice none 0 0, .slice none 0 0, .slice none 0 0] 26))
  have HR0 := Lib.hid (r0.alloc (.cells #[.int .i64 3, .int .i64 0, .string { data := #[] }, .slice none 0 0, .slice none 0 0, .slice none 0 0] 26))
  have HR1 := Lib.hid (r1.alloc (.cells #[.int .i64 3, .int .i64 0, .string { data := #[] }, .slice none 0 0, .slice none 0 0, .slice none 0 0] 26))
  have HR2 := Lib.hid (r2.alloc (.cells #[.int .i64 3, .int .i64 0, .string { data := #[] }, .slice none 0 0, .slice none 0 0, .slice none 0 0] 26))
  have HN := Lib.hid (Row.new W1 [.int .i64 3, .int .i64 0, .string { data := #[] }, .slice none 0 0, .slice none 0 0, .slice none 0 0] 26)
  have n0 := HN.out.cell (k := 0) rfl
  have c0 := HR0.out.cell (k := 0) rfl
  clear hto r0 r1 r2
  have HC := Lib.hid ((show Calls Tryz.prog 72 #[.pointer (some ⟨g, 0, none⟩), .int .i64 64] (W1.alloc (.cells #[.int .i64 3, .int .i64 0, .string { data := #[] }, .slice none 0 0, .slice none 0 0, .slice none 0 0] 26)) fun e w' => e = .returned (.string s) ∧ Readto (W1.alloc (.cells #[.int .i64 3, .int .i64 0, .string { data := #[] }, .slice none 0 0, .slice none 0 0, .slice none 0 0] 26)) w' g A c F k (p + 1 + ((enc s.size).length + s.size)) 0 from by
    have hsl : s.data.toList.length = s.size := by simp
    have h1 := rtext_any g A c F k (p + 1) 64 _ HT1.out.rr (by omega)
    rw [rbytes_at (b := s.data.toList) (R := R) (by rw [hsl]; exact HK.out) (by omega) (by omega), hsl, bytes_text] at h1
    exact h1))
  go_wp2_with fail
  refine HC.out.mono ?_
  rintro e W3 ⟨rfl, hto2⟩
  have hs2 : (W1.alloc (.cells #[.int .i64 3, .int .i64 0, .string { data := #[] }, .slice none 0 0, .slice none 0 0, .slice none 0 0] 26)).heap.size = W1.heap.size + 1 := by simp
  have hs23 := hto2.only.size
  rw [hs2] at hs23
  have hn3 := HN.out.only hto2.only (by omega)
  have HR23 := Lib.hid (HR2.out.only hto2.only (by omega))
  have n3 := hn3.cell (k := 2) rfl
  have n3f := hn3.free 2
  have HT3 := Lib.hid (readto_setc (readto_trans HT1.out hto2) (p := ⟨W1.heap.size, 2, none⟩) (show w.heap.size ≤ W1.heap.size by omega) hgl HFF.out (.string s))
  have HLD := Lib.hid (show Row (W3.setCell ⟨W1.heap.size, 2, none⟩ (.string s)) W1.heap.size 26 [.int .i64 3, .int .i64 0, .string s, .slice none 0 0, .slice none 0 0, .slice none 0 0] from hn3.set 2 _)
  have HRES := Lib.hid (show Row (W3.setCell ⟨W1.heap.size, 2, none⟩ (.string s)) (w.heap.size + 1 + 1) 26 [.int .i64 0, .int .i64 0, .string { data := #[] }, .slice none 0 0, .slice none 0 0, .slice none 0 0] from
    HR23.out.only (Only.setCell (S := fun b => b = W1.heap.size) (Only.refl _ _) (.inl rfl) _) (by omega))
  have HE := Lib.hid (readV_end (w0 := w) (VIn.bare (fun _ => False) (W3.setCell ⟨W1.heap.size, 2, none⟩ (.string s)) 3 0 s parts (by decide) (by decide) (by unfold maxLen; omega)) (r := w.heap.size + 1 + 1) (fun b hb => hb.elim) HT3.out (by omega) hgl HFF.out)
  clear hto2 hn3
  go_wp2_with (first | (refine wpList_load_row rfl 26 (.tmp 5) rfl W1.heap.size rfl 26 _ (0, 0) _ HLD.out Tryz.underlying26 rfl (v_info (cs := [.int .i64 3, .int .i64 0, .string s, .slice none 0 0, .slice none 0 0, .slice none 0 0]) rfl) ?_) | (refine wpList_store_row rfl 26 (.tmp 4) (.tmp 60) rfl (w.heap.size + 1 + 1) #[.int .i64 3, .int .i64 0, .string s, .slice none 0 0, .slice none 0 0, .slice none 0 0] rfl rfl 26 _ HRES.out (v_info (cs := [.int .i64 0, .int .i64 0, .string { data := #[] }, .slice none 0 0, .slice none 0 0, .slice none 0 0]) rfl) rfl (v_one _ _ _ _ _ _ _ _ _ _ _ _) ?_))
  have hgot : ((W3.setCell ⟨W1.heap.size, 2, none⟩ (.string s)).setRow (w.heap.size + 1 + 1) #[.int .i64 3, .int .i64 0, .string s, .slice none 0 0, .slice none 0 0, .slice none 0 0]).heap[w.heap.size + 1 + 1]? = some (.cells #[.int .i64 3, .int .i64 0, .string s, .slice none 0 0, .slice none 0 0, .slice none 0 0] 26 (0, 0)) := setRow_heap (W3.setCell ⟨W1.heap.size, 2, none⟩ (.string s)) _ _ _ _ _ HRES.out
  (try simp only [Exit.inBlock, Exit.then])
  refine bodyPost_ret (results_cell_row (by rfl) _ _ (w.heap.size + 1 + 1) _ _ _ _ (by rfl) hgot Tryz.underlying26 rfl (v_info (cs := [.int .i64 3, .int .i64 0, .string s, .slice none 0 0, .slice none 0 0, .slice none 0 0]) rfl)) rfl ?_
  exact HE.out

set_option maxHeartbeats 3200000 in
theorem zread_4 (hF : ∀ j, F j → j < g) (d : Nat) (hd : d ≤ 5) (s : ByteArray) (parts : Nat → Vt) (hnm : nameB s = true) (p : Nat) (R : List UInt8) (w : World) (h : Rr w g A c F k p 0) (hk : k.drop p = [4] ++ (enc s.size ++ (s.data.toList ++ R))) :
    Calls Tryz.prog 43 #[.pointer (some ⟨g, 0, none⟩), .int .i64 (d : Int)] w (ReadV w g A c F k (p + 1 + ((enc s.size).length + s.size)) (.mk 4 0 s [] [] 0 parts)) := by
  have hgl := h.lt
  have HB := Lib.hid (show Calls Tryz.prog 68 #[.pointer (some ⟨g, 0, none⟩)] (rW g d w) fun e w' => e = .returned (.int .u8 4) ∧ Readto (rW g d w) w' g A c F k (p + 1) 0 from by
    have h1 := rbyte_ok g A c F k p (rW g d w) (h.below (rW_below g d w))
    rw [rbyte_at (x := 4) hk] at h1
    exact h1)
  have HK := Lib.hid (show k.drop (p + 1) = _ from drop_more hk)
  have HFF := Lib.hid hF
  have bd : ¬ (5 : Int) < (d : Int) := by omega
  have bd0 : (0 : Int) ≤ (d : Int) := by omega
  have bd1 : (d : Int) ≤ 5 := by omega
  have R0 := Lib.hid (rW_0 g d w)
  have R1 := Lib.hid (rW_1 g d w)
  have R2 := Lib.hid (rW_2 g d w)
  have RB := Lib.hid (rW_below g d w)
  clear h hk hF
  go_enter Tryz.func43, Tryz.ntmps43
  go_wp2_with fail
  refine HB.out.mono ?_
  rintro e W1 ⟨rfl, hto⟩
  have hs3 : (rW g d w).heap.size = w.heap.size + 1 + 1 + 1 := by simp
  have hsz := hto.only.size
  rw [hs3] at hsz
  have r0 := R0.out.only hto.only (by omega)
  have r1 := R1.out.only hto.only (by omega)
  have r2 := R2.out.only hto.only (by omega)
  have HT1 := Lib.hid (readto_new (hto.after RB.out) (.cells #[.int .i64 4, .int .i64 0, .string { data := #[] }, .slice none 0 0, .slice none 0 0, .slice none 0 0] 26))
  have HR0 := Lib.hid (r0.alloc (.cells #[.int .i64 4, .int .i64 0, .string { data := #[] }, .slice none 0 0, .slice none 0 0, .slice none 0 0] 26))
  have HR1 := Lib.hid (r1.alloc (.cells #[.int .i64 4, .int .i64 0, .string { data := #[] }, .slice none 0 0, .slice none 0 0, .slice none 0 0] 26))
  have HR2 := Lib.hid (r2.alloc (.cells #[.int .i64 4, .int .i64 0, .string { data := #[] }, .slice none 0 0, .slice none 0 0, .slice none 0 0] 26))
  have HN := Lib.hid (Row.new W1 [.int .i64 4, .int .i64 0, .string { data := #[] }, .slice none 0 0, .slice none 0 0, .slice none 0 0] 26)
  have n0 := HN.out.cell (k := 0) rfl
  have c0 := HR0.out.cell (k := 0) rfl
  clear hto r0 r1 r2
  have HC := Lib.hid (nword_ g A c F k (p + 1) s R _ HT1.out.rr HK.out hnm)
  go_wp2_with fail
  refine HC.out.mono ?_
  rintro e W3 ⟨rfl, hto2⟩
  have hs2 : (W1.alloc (.cells #[.int .i64 4, .int .i64 0, .string { data := #[] }, .slice none 0 0, .slice none 0 0, .slice none 0 0] 26)).heap.size = W1.heap.size + 1 := by simp
  have hs23 := hto2.only.size
  rw [hs2] at hs23
  have hn3 := HN.out.only hto2.only (by omega)
  have HR23 := Lib.hid (HR2.out.only hto2.only (by omega))
  have n3 := hn3.cell (k := 2) rfl
  have n3f := hn3.free 2
  have HT3 := Lib.hid (readto_setc (readto_trans HT1.out hto2) (p := ⟨W1.heap.size, 2, none⟩) (show w.heap.size ≤ W1.heap.size by omega) hgl HFF.out (.string s))
  have HLD := Lib.hid (show Row (W3.setCell ⟨W1.heap.size, 2, none⟩ (.string s)) W1.heap.size 26 [.int .i64 4, .int .i64 0, .string s, .slice none 0 0, .slice none 0 0, .slice none 0 0] from hn3.set 2 _)
  have HRES := Lib.hid (show Row (W3.setCell ⟨W1.heap.size, 2, none⟩ (.string s)) (w.heap.size + 1 + 1) 26 [.int .i64 0, .int .i64 0, .string { data := #[] }, .slice none 0 0, .slice none 0 0, .slice none 0 0] from
    HR23.out.only (Only.setCell (S := fun b => b = W1.heap.size) (Only.refl _ _) (.inl rfl) _) (by omega))
  have HE := Lib.hid (readV_end (w0 := w) (VIn.bare (fun _ => False) (W3.setCell ⟨W1.heap.size, 2, none⟩ (.string s)) 4 0 s parts (by decide) (by decide) (by have := nameB_sz hnm; unfold maxLen; omega)) (r := w.heap.size + 1 + 1) (fun b hb => hb.elim) HT3.out (by omega) hgl HFF.out)
  clear hto2 hn3
  go_wp2_with (first | (refine wpList_load_row rfl 26 (.tmp 5) rfl W1.heap.size rfl 26 _ (0, 0) _ HLD.out Tryz.underlying26 rfl (v_info (cs := [.int .i64 4, .int .i64 0, .string s, .slice none 0 0, .slice none 0 0, .slice none 0 0]) rfl) ?_) | (refine wpList_store_row rfl 26 (.tmp 4) (.tmp 60) rfl (w.heap.size + 1 + 1) #[.int .i64 4, .int .i64 0, .string s, .slice none 0 0, .slice none 0 0, .slice none 0 0] rfl rfl 26 _ HRES.out (v_info (cs := [.int .i64 0, .int .i64 0, .string { data := #[] }, .slice none 0 0, .slice none 0 0, .slice none 0 0]) rfl) rfl (v_one _ _ _ _ _ _ _ _ _ _ _ _) ?_))
  have hgot : ((W3.setCell ⟨W1.heap.size, 2, none⟩ (.string s)).setRow (w.heap.size + 1 + 1) #[.int .i64 4, .int .i64 0, .string s, .slice none 0 0, .slice none 0 0, .slice none 0 0]).heap[w.heap.size + 1 + 1]? = some (.cells #[.int .i64 4, .int .i64 0, .string s, .slice none 0 0, .slice none 0 0, .slice none 0 0] 26 (0, 0)) := setRow_heap (W3.setCell ⟨W1.heap.size, 2, none⟩ (.string s)) _ _ _ _ _ HRES.out
  (try simp only [Exit.inBlock, Exit.then])
  refine bodyPost_ret (results_cell_row (by rfl) _ _ (w.heap.size + 1 + 1) _ _ _ _ (by rfl) hgot Tryz.underlying26 rfl (v_info (cs := [.int .i64 4, .int .i64 0, .string s, .slice none 0 0, .slice none 0 0, .slice none 0 0]) rfl)) rfl ?_
  exact HE.out

set_option maxHeartbeats 3200000 in
theorem zread_5 (hF : ∀ j, F j → j < g) (d : Nat) (hd : d ≤ 5) (names : List ByteArray) (parts : Nat → Vt) (hw8 : names.length ≤ 8) (hri : riseB names = true) (H : ∀ j, j < names.length → ReadsAt g A c F k (parts j) (d + 1)) (p : Nat) (R : List UInt8) (w : World) (h : Rr w g A c F k p 0) (hk : k.drop p = [5] ++ (enc names.length ++ (fsB names parts names.length ++ R))) :
    Calls Tryz.prog 43 #[.pointer (some ⟨g, 0, none⟩), .int .i64 (d : Int)] w (ReadV w g A c F k (p + 1 + ((enc names.length).length + (fsB names parts names.length).length)) (.mk 5 0 { data := #[] } names [] names.length parts)) := by
  have hgl := h.lt
  have HB := Lib.hid (show Calls Tryz.prog 68 #[.pointer (some ⟨g, 0, none⟩)] (rW g d w) fun e w' => e = .returned (.int .u8 5) ∧ Readto (rW g d w) w' g A c F k (p + 1) 0 from by
    have h1 := rbyte_ok g A c F k p (rW g d w) (h.below (rW_below g d w))
    rw [rbyte_at (x := 5) hk] at h1
    exact h1)
  have HK := Lib.hid (show k.drop (p + 1) = _ from drop_more hk)
  have HFF := Lib.hid hF
  have bd : ¬ (5 : Int) < (d : Int) := by omega
  have bd0 : (0 : Int) ≤ (d : Int) := by omega
  have bd1 : (d : Int) ≤ 5 := by omega
  have R0 := Lib.hid (rW_0 g d w)
  have R1 := Lib.hid (rW_1 g d w)
  have R2 := Lib.hid (rW_2 g d w)
  have RB := Lib.hid (rW_below g d w)
  clear h hk hF
  have HWS := Lib.hid (words_size fun i hi => riseB_size hri hi)
  have HWD := Lib.hid hri
  have HH := Lib.hid H
  clear hri H
  go_enter Tryz.func43, Tryz.ntmps43
  go_wp2_with fail
  refine HB.out.mono ?_
  rintro e W1 ⟨rfl, hto⟩
  have hs3 : (rW g d w).heap.size = w.heap.size + 1 + 1 + 1 := by simp
  have hsz := hto.only.size
  rw [hs3] at hsz
  have r0 := R0.out.only hto.only (by omega)
  have r1 := R1.out.only hto.only (by omega)
  have r2 := R2.out.only hto.only (by omega)
  have HT1 := Lib.hid (readto_new (hto.after RB.out) (.cells #[.int .i64 5, .int .i64 0, .string { data := #[] }, .slice none 0 0, .slice none 0 0, .slice none 0 0] 26))
  have HR0 := Lib.hid (r0.alloc (.cells #[.int .i64 5, .int .i64 0, .string { data := #[] }, .slice none 0 0, .slice none 0 0, .slice none 0 0] 26))
  have HR1 := Lib.hid (r1.alloc (.cells #[.int .i64 5, .int .i64 0, .string { data := #[] }, .slice none 0 0, .slice none 0 0, .slice none 0 0] 26))
  have HR2 := Lib.hid (r2.alloc (.cells #[.int .i64 5, .int .i64 0, .string { data := #[] }, .slice none 0 0, .slice none 0 0, .slice none 0 0] 26))
  have HN := Lib.hid (Row.new W1 [.int .i64 5, .int .i64 0, .string { data := #[] }, .slice none 0 0, .slice none 0 0, .slice none 0 0] 26)
  have n0 := HN.out.cell (k := 0) rfl
  have c0 := HR0.out.cell (k := 0) rfl
  clear hto r0 r1 r2
  have c1 := HR1.out.cell (k := 0) rfl
  have HC := Lib.hid (sfread_any g A c F k (p + 1) names parts R 69 Tryz.f69 #[.pointer (some ⟨w.heap.size, 0, none⟩), .pointer (some ⟨w.heap.size + 1, 0, none⟩)] _ HT1.out.rr Tryz.func69 (by kernel_rfl) (by rfl) HK.out hw8 HWD.out HFF.out
    (fun j hj w' p' R' ho hrr hk' => (readpart_any g A c F k HFF.out (parts j) d (by omega) (HH.out j hj) w.heap.size (w.heap.size + 1) p' R' w' hrr hk' ((HR0.out.only ho (by omega)).cell (k := 0) rfl) ((HR1.out.only ho (by omega)).cell (k := 0) rfl)).mono fun _ _ h => h))
  go_wp2_with fail
  refine HC.out.mono ?_
  rintro e W3 ⟨v, u, css, rfl, hrf⟩
  have hrow := hrf.row
  rw [List.take_length] at hrow
  have hl3 : ∀ j, j < names.length → (css j).length = 6 := fun j hj => by
    obtain ⟨X, hX, _⟩ := hrf.pin j hj
    exact hX.length
  have hprow := hrf.prow
  have HPIN := Lib.hid hrf.pin
  obtain ⟨a, ca, rfl, _, hcap, _⟩ := own_rd hrow
  obtain ⟨b, cb, rfl, _, hcapb⟩ := own_parts hl3 hprow
  have hto2 := hrf.rd
  have hs2 : (W1.alloc (.cells #[.int .i64 5, .int .i64 0, .string { data := #[] }, .slice none 0 0, .slice none 0 0, .slice none 0 0] 26)).heap.size = W1.heap.size + 1 := by simp
  have hs23 := hto2.only.size
  rw [hs2] at hs23 hrow hprow
  have hn3 := HN.out.only hto2.only (by omega)
  have hn4 : Row (W3.setCell ⟨W1.heap.size, 3, none⟩ (.slice a names.length ca)) W1.heap.size 26 [.int .i64 5, .int .i64 0, .string { data := #[] }, .slice a names.length ca, .slice none 0 0, .slice none 0 0] := hn3.set 3 _
  have hn5 : Row ((W3.setCell ⟨W1.heap.size, 3, none⟩ (.slice a names.length ca)).setCell ⟨W1.heap.size, 5, none⟩ (.slice b names.length cb)) W1.heap.size 26 [.int .i64 5, .int .i64 0, .string { data := #[] }, .slice a names.length ca, .slice none 0 0, .slice b names.length cb] := hn4.set 5 _
  have HLD := Lib.hid hn5
  have HR23 := Lib.hid (HR2.out.only hto2.only (by omega))
  have HT3 := Lib.hid (readto_setc (readto_setc (readto_trans HT1.out hto2) (p := ⟨W1.heap.size, 3, none⟩) (show w.heap.size ≤ W1.heap.size by omega) hgl HFF.out (.slice a names.length ca)) (p := ⟨W1.heap.size, 5, none⟩) (show w.heap.size ≤ W1.heap.size by omega) hgl HFF.out (.slice b names.length cb))
  have HOW := Lib.hid (own_set_ (own_set_ hrow (p := ⟨W1.heap.size, 3, none⟩) (show W1.heap.size < _ by omega) (.slice a names.length ca)) (p := ⟨W1.heap.size, 5, none⟩) (show W1.heap.size < _ by omega) (.slice b names.length cb))
  have HOP := Lib.hid (own_set_ (own_set_ hprow (p := ⟨W1.heap.size, 3, none⟩) (show W1.heap.size < _ by omega) (.slice a names.length ca)) (p := ⟨W1.heap.size, 5, none⟩) (show W1.heap.size < _ by omega) (.slice b names.length cb))
  have n31 := hn3.cell (k := 3) rfl
  have n3f := hn3.free 3
  have n42 := hn4.cell (k := 5) rfl
  have n4f := hn4.free 5
  have hO35 : Only (fun q => q = W1.heap.size) W3 ((W3.setCell ⟨W1.heap.size, 3, none⟩ (.slice a names.length ca)).setCell ⟨W1.heap.size, 5, none⟩ (.slice b names.length cb)) := Only.setCell (S := fun q => q = W1.heap.size) (Only.setCell (S := fun q => q = W1.heap.size) (Only.refl _ _) (.inl rfl) _) (.inl rfl) _
  have HRES := Lib.hid (HR23.out.only hO35 (by omega))
  have hsz5 : ((W3.setCell ⟨W1.heap.size, 3, none⟩ (.slice a names.length ca)).setCell ⟨W1.heap.size, 5, none⟩ (.slice b names.length cb)).heap.size = W3.heap.size := by simp
  have HE := Lib.hid (readV_end (w0 := w) (VIn.mk (X := fun q => W1.heap.size + 1 ≤ q ∧ q < ((W3.setCell ⟨W1.heap.size, 3, none⟩ (.slice a names.length ca)).setCell ⟨W1.heap.size, 5, none⟩ (.slice b names.length cb)).heap.size) (k := 5) (n := 0) (s := { data := #[] }) (names := names) (ids := []) (b := none) (lb := 0) (cb := 0) (len := names.length) (parts := parts) css (by decide) (by decide) (by decide)
    (vk_rd (by obtain ⟨a', c', e, h, _⟩ := own_rd HOW.out; cases e; exact h) (by omega)) hcap HWS.out (Rd.nil _ _ _) ⟨Nat.le_refl _, Nat.zero_le _⟩ (fun _ h => by cases h) (vk_px (by obtain ⟨a', c', e, h, _⟩ := own_parts hl3 HOP.out; cases e; exact h) (by omega)) hcapb
    (fun j hj => by
      obtain ⟨X, hX, hXb⟩ := HPIN.out j hj
      rw [hs2] at hXb
      exact hX.kept hO35.size fun q hq hlt => ⟨⟨by have := hXb q hq; omega, by have := hXb q hq; omega⟩, hO35.block q hlt (by have := hXb q hq; omega)⟩)) (r := w.heap.size + 1 + 1) (fun q hq => ⟨by omega, hq.2⟩) HT3.out (by omega) hgl HFF.out)
  clear hto2 hrow hprow hrf hn3 hn4 hn5 hO35
  go_wp2_with (first | (refine wpList_load_row rfl 26 (.tmp 5) rfl W1.heap.size rfl 26 _ (0, 0) _ HLD.out Tryz.underlying26 rfl (v_info (cs := [.int .i64 5, .int .i64 0, .string { data := #[] }, .slice a names.length ca, .slice none 0 0, .slice b names.length cb]) rfl) ?_) | (refine wpList_store_row rfl 26 (.tmp 4) (.tmp 60) rfl (w.heap.size + 1 + 1) #[.int .i64 5, .int .i64 0, .string { data := #[] }, .slice a names.length ca, .slice none 0 0, .slice b names.length cb] rfl rfl 26 _ HRES.out (v_info (cs := [.int .i64 0, .int .i64 0, .string { data := #[] }, .slice none 0 0, .slice none 0 0, .slice none 0 0]) rfl) rfl (v_one _ _ _ _ _ _ _ _ _ _ _ _) ?_))
  have hgot : (((W3.setCell ⟨W1.heap.size, 3, none⟩ (.slice a names.length ca)).setCell ⟨W1.heap.size, 5, none⟩ (.slice b names.length cb)).setRow (w.heap.size + 1 + 1) #[.int .i64 5, .int .i64 0, .string { data := #[] }, .slice a names.length ca, .slice none 0 0, .slice b names.length cb]).heap[w.heap.size + 1 + 1]? = some (.cells #[.int .i64 5, .int .i64 0, .string { data := #[] }, .slice a names.length ca, .slice none 0 0, .slice b names.length cb] 26 (0, 0)) := setRow_heap ((W3.setCell ⟨W1.heap.size, 3, none⟩ (.slice a names.length ca)).setCell ⟨W1.heap.size, 5, none⟩ (.slice b names.length cb)) _ _ _ _ _ HRES.out
  (try simp only [Exit.inBlock, Exit.then])
  refine bodyPost_ret (results_cell_row (by rfl) _ _ (w.heap.size + 1 + 1) _ _ _ _ (by rfl) hgot Tryz.underlying26 rfl (v_info (cs := [.int .i64 5, .int .i64 0, .string { data := #[] }, .slice a names.length ca, .slice none 0 0, .slice b names.length cb]) rfl)) rfl ?_
  exact HE.out

set_option maxHeartbeats 3200000 in
theorem zread_6 (hF : ∀ j, F j → j < g) (d : Nat) (hd : d ≤ 5) (ids : List Int) (parts : Nat → Vt) (hw8 : ids.length ≤ 12) (hri : idsB ids = true) (hwf : ∀ x ∈ ids, (Lit.int .u64 x).wf = true) (H : ∀ j, j < ids.length → ReadsAt g A c F k (parts j) (d + 1)) (p : Nat) (R : List UInt8) (w : World) (h : Rr w g A c F k p 0) (hk : k.drop p = [6] ++ (enc ids.length ++ (esB ids parts ids.length ++ R))) :
    Calls Tryz.prog 43 #[.pointer (some ⟨g, 0, none⟩), .int .i64 (d : Int)] w (ReadV w g A c F k (p + 1 + ((enc ids.length).length + (esB ids parts ids.length).length)) (.mk 6 0 { data := #[] } [] ids ids.length parts)) := by
  have hgl := h.lt
  have HB := Lib.hid (show Calls Tryz.prog 68 #[.pointer (some ⟨g, 0, none⟩)] (rW g d w) fun e w' => e = .returned (.int .u8 6) ∧ Readto (rW g d w) w' g A c F k (p + 1) 0 from by
    have h1 := rbyte_ok g A c F k p (rW g d w) (h.below (rW_below g d w))
    rw [rbyte_at (x := 6) hk] at h1
    exact h1)
  have HK := Lib.hid (show k.drop (p + 1) = _ from drop_more hk)
  have HFF := Lib.hid hF
  have bd : ¬ (5 : Int) < (d : Int) := by omega
  have bd0 : (0 : Int) ≤ (d : Int) := by omega
  have bd1 : (d : Int) ≤ 5 := by omega
  have R0 := Lib.hid (rW_0 g d w)
  have R1 := Lib.hid (rW_1 g d w)
  have R2 := Lib.hid (rW_2 g d w)
  have RB := Lib.hid (rW_below g d w)
  clear h hk hF
  have HWS := Lib.hid hwf
  have HWD := Lib.hid hri
  have HH := Lib.hid H
  clear hri H hwf
  go_enter Tryz.func43, Tryz.ntmps43
  go_wp2_with fail
  refine HB.out.mono ?_
  rintro e W1 ⟨rfl, hto⟩
  have hs3 : (rW g d w).heap.size = w.heap.size + 1 + 1 + 1 := by simp
  have hsz := hto.only.size
  rw [hs3] at hsz
  have r0 := R0.out.only hto.only (by omega)
  have r1 := R1.out.only hto.only (by omega)
  have r2 := R2.out.only hto.only (by omega)
  have HT1 := Lib.hid (readto_new (hto.after RB.out) (.cells #[.int .i64 6, .int .i64 0, .string { data := #[] }, .slice none 0 0, .slice none 0 0, .slice none 0 0] 26))
  have HR0 := Lib.hid (r0.alloc (.cells #[.int .i64 6, .int .i64 0, .string { data := #[] }, .slice none 0 0, .slice none 0 0, .slice none 0 0] 26))
  have HR1 := Lib.hid (r1.alloc (.cells #[.int .i64 6, .int .i64 0, .string { data := #[] }, .slice none 0 0, .slice none 0 0, .slice none 0 0] 26))
  have HR2 := Lib.hid (r2.alloc (.cells #[.int .i64 6, .int .i64 0, .string { data := #[] }, .slice none 0 0, .slice none 0 0, .slice none 0 0] 26))
  have HN := Lib.hid (Row.new W1 [.int .i64 6, .int .i64 0, .string { data := #[] }, .slice none 0 0, .slice none 0 0, .slice none 0 0] 26)
  have n0 := HN.out.cell (k := 0) rfl
  have c0 := HR0.out.cell (k := 0) rfl
  clear hto r0 r1 r2
  have c1 := HR1.out.cell (k := 0) rfl
  have HC := Lib.hid (eread_any g A c F k (p + 1) ids parts R 69 Tryz.f69 #[.pointer (some ⟨w.heap.size, 0, none⟩), .pointer (some ⟨w.heap.size + 1, 0, none⟩)] _ HT1.out.rr Tryz.func69 (by kernel_rfl) (by rfl) HK.out hw8 HWD.out HWS.out HFF.out
    (fun j hj w' p' R' ho hrr hk' => (readpart_any g A c F k HFF.out (parts j) d (by omega) (HH.out j hj) w.heap.size (w.heap.size + 1) p' R' w' hrr hk' ((HR0.out.only ho (by omega)).cell (k := 0) rfl) ((HR1.out.only ho (by omega)).cell (k := 0) rfl)).mono fun _ _ h => h))
  go_wp2_with fail
  refine HC.out.mono ?_
  rintro e W3 ⟨v, u, css, rfl, hrf⟩
  have hrow := hrf.row
  rw [List.take_length] at hrow
  have hl3 : ∀ j, j < ids.length → (css j).length = 6 := fun j hj => by
    obtain ⟨X, hX, _⟩ := hrf.pin j hj
    exact hX.length
  have hprow := hrf.prow
  have HPIN := Lib.hid hrf.pin
  obtain ⟨a, ca, rfl, _, hcap, _⟩ := own_rd hrow
  obtain ⟨b, cb, rfl, _, hcapb⟩ := own_parts hl3 hprow
  have hto2 := hrf.rd
  have hs2 : (W1.alloc (.cells #[.int .i64 6, .int .i64 0, .string { data := #[] }, .slice none 0 0, .slice none 0 0, .slice none 0 0] 26)).heap.size = W1.heap.size + 1 := by simp
  have hs23 := hto2.only.size
  rw [hs2] at hs23 hrow hprow
  have hn3 := HN.out.only hto2.only (by omega)
  have hn4 : Row (W3.setCell ⟨W1.heap.size, 4, none⟩ (.slice a ids.length ca)) W1.heap.size 26 [.int .i64 6, .int .i64 0, .string { data := #[] }, .slice none 0 0, .slice a ids.length ca, .slice none 0 0] := hn3.set 4 _
  have hn5 : Row ((W3.setCell ⟨W1.heap.size, 4, none⟩ (.slice a ids.length ca)).setCell ⟨W1.heap.size, 5, none⟩ (.slice b ids.length cb)) W1.heap.size 26 [.int .i64 6, .int .i64 0, .string { data := #[] }, .slice none 0 0, .slice a ids.length ca, .slice b ids.length cb] := hn4.set 5 _
  have HLD := Lib.hid hn5
  have HR23 := Lib.hid (HR2.out.only hto2.only (by omega))
  have HT3 := Lib.hid (readto_setc (readto_setc (readto_trans HT1.out hto2) (p := ⟨W1.heap.size, 4, none⟩) (show w.heap.size ≤ W1.heap.size by omega) hgl HFF.out (.slice a ids.length ca)) (p := ⟨W1.heap.size, 5, none⟩) (show w.heap.size ≤ W1.heap.size by omega) hgl HFF.out (.slice b ids.length cb))
  have HOW := Lib.hid (own_set_ (own_set_ hrow (p := ⟨W1.heap.size, 4, none⟩) (show W1.heap.size < _ by omega) (.slice a ids.length ca)) (p := ⟨W1.heap.size, 5, none⟩) (show W1.heap.size < _ by omega) (.slice b ids.length cb))
  have HOP := Lib.hid (own_set_ (own_set_ hprow (p := ⟨W1.heap.size, 4, none⟩) (show W1.heap.size < _ by omega) (.slice a ids.length ca)) (p := ⟨W1.heap.size, 5, none⟩) (show W1.heap.size < _ by omega) (.slice b ids.length cb))
  have n31 := hn3.cell (k := 4) rfl
  have n3f := hn3.free 4
  have n42 := hn4.cell (k := 5) rfl
  have n4f := hn4.free 5
  have hO35 : Only (fun q => q = W1.heap.size) W3 ((W3.setCell ⟨W1.heap.size, 4, none⟩ (.slice a ids.length ca)).setCell ⟨W1.heap.size, 5, none⟩ (.slice b ids.length cb)) := Only.setCell (S := fun q => q = W1.heap.size) (Only.setCell (S := fun q => q = W1.heap.size) (Only.refl _ _) (.inl rfl) _) (.inl rfl) _
  have HRES := Lib.hid (HR23.out.only hO35 (by omega))
  have hsz5 : ((W3.setCell ⟨W1.heap.size, 4, none⟩ (.slice a ids.length ca)).setCell ⟨W1.heap.size, 5, none⟩ (.slice b ids.length cb)).heap.size = W3.heap.size := by simp
  have HE := Lib.hid (readV_end (w0 := w) (VIn.mk (X := fun q => W1.heap.size + 1 ≤ q ∧ q < ((W3.setCell ⟨W1.heap.size, 4, none⟩ (.slice a ids.length ca)).setCell ⟨W1.heap.size, 5, none⟩ (.slice b ids.length cb)).heap.size) (k := 6) (n := 0) (s := { data := #[] }) (names := []) (ids := ids) (a := none) (la := 0) (ca := 0) (len := ids.length) (parts := parts) css (by decide) (by decide) (by decide)
    (Rd.nil _ _ _) ⟨Nat.le_refl _, Nat.zero_le _⟩ (fun _ h => by cases h) (vk_rd (by obtain ⟨a', c', e, h, _⟩ := own_rd HOW.out; cases e; exact h) (by omega)) hcap HWS.out (vk_px (by obtain ⟨a', c', e, h, _⟩ := own_parts hl3 HOP.out; cases e; exact h) (by omega)) hcapb
    (fun j hj => by
      obtain ⟨X, hX, hXb⟩ := HPIN.out j hj
      rw [hs2] at hXb
      exact hX.kept hO35.size fun q hq hlt => ⟨⟨by have := hXb q hq; omega, by have := hXb q hq; omega⟩, hO35.block q hlt (by have := hXb q hq; omega)⟩)) (r := w.heap.size + 1 + 1) (fun q hq => ⟨by omega, hq.2⟩) HT3.out (by omega) hgl HFF.out)
  clear hto2 hrow hprow hrf hn3 hn4 hn5 hO35
  go_wp2_with (first | (refine wpList_load_row rfl 26 (.tmp 5) rfl W1.heap.size rfl 26 _ (0, 0) _ HLD.out Tryz.underlying26 rfl (v_info (cs := [.int .i64 6, .int .i64 0, .string { data := #[] }, .slice none 0 0, .slice a ids.length ca, .slice b ids.length cb]) rfl) ?_) | (refine wpList_store_row rfl 26 (.tmp 4) (.tmp 60) rfl (w.heap.size + 1 + 1) #[.int .i64 6, .int .i64 0, .string { data := #[] }, .slice none 0 0, .slice a ids.length ca, .slice b ids.length cb] rfl rfl 26 _ HRES.out (v_info (cs := [.int .i64 0, .int .i64 0, .string { data := #[] }, .slice none 0 0, .slice none 0 0, .slice none 0 0]) rfl) rfl (v_one _ _ _ _ _ _ _ _ _ _ _ _) ?_))
  have hgot : (((W3.setCell ⟨W1.heap.size, 4, none⟩ (.slice a ids.length ca)).setCell ⟨W1.heap.size, 5, none⟩ (.slice b ids.length cb)).setRow (w.heap.size + 1 + 1) #[.int .i64 6, .int .i64 0, .string { data := #[] }, .slice none 0 0, .slice a ids.length ca, .slice b ids.length cb]).heap[w.heap.size + 1 + 1]? = some (.cells #[.int .i64 6, .int .i64 0, .string { data := #[] }, .slice none 0 0, .slice a ids.length ca, .slice b ids.length cb] 26 (0, 0)) := setRow_heap ((W3.setCell ⟨W1.heap.size, 4, none⟩ (.slice a ids.length ca)).setCell ⟨W1.heap.size, 5, none⟩ (.slice b ids.length cb)) _ _ _ _ _ HRES.out
  (try simp only [Exit.inBlock, Exit.then])
  refine bodyPost_ret (results_cell_row (by rfl) _ _ (w.heap.size + 1 + 1) _ _ _ _ (by rfl) hgot Tryz.underlying26 rfl (v_info (cs := [.int .i64 6, .int .i64 0, .string { data := #[] }, .slice none 0 0, .slice a ids.length ca, .slice b ids.length cb]) rfl)) rfl ?_
  exact HE.out

theorem zread_any (hF : ∀ j, F j → j < g) : ∀ (s : Vt) (d : Nat), s.rightAt d = true → s.inn → ReadsAt g A c F k s d := by
  intro s
  induction s with
  | nul => intro d h; simp [Vt.rightAt, Vt.sound] at h
  | mk kk n x names ids len parts ih =>
    intro d hr hin p R w h hk
    obtain ⟨hnw, hiw, hpin⟩ := hin
    rw [Vt.rightAt_mk, Bool.and_eq_true, Bool.and_eq_true, List.all_eq_true] at hr
    obtain ⟨⟨h5, hh⟩, hp⟩ := hr
    have h5 := of_decide_eq_true h5
    rcases headV_cases hh with ⟨rfl, hn01, hx, hnn, hii, rfl⟩ | ⟨rfl, hx, hnn, hii, rfl⟩ | ⟨rfl, rfl, hs64, hnn, hii, rfl⟩ | ⟨rfl, rfl, hnm, hnn, hii, rfl⟩ | ⟨rfl, rfl, hx, hii, h8, rfl, hri⟩ | ⟨rfl, rfl, hx, hnn, h12, rfl, hid⟩
    · obtain rfl := List.eq_nil_of_length_eq_zero hnn
      obtain rfl := List.eq_nil_of_length_eq_zero hii
      obtain rfl := empty_of_size hx
      rw [vbytes_1] at hk ⊢
      rcases hn01 with rfl | rfl
      · exact zread_10 g A c F k hF d h5 parts p R w h hk
      · exact zread_11 g A c F k hF d h5 parts p R w h hk
    · obtain rfl := List.eq_nil_of_length_eq_zero hnn
      obtain rfl := List.eq_nil_of_length_eq_zero hii
      obtain rfl := empty_of_size hx
      rw [vbytes_2] at hk ⊢
      rw [show p + (([2] : List UInt8) ++ enc (zig n)).length = p + 1 + (enc (zig n)).length by simp only [List.length_append, List.length_cons, List.length_nil]; omega]
      exact zread_2 g A c F k hF d h5 n parts hnw p R w h (by rw [hk, List.append_assoc])
    · obtain rfl := List.eq_nil_of_length_eq_zero hnn
      obtain rfl := List.eq_nil_of_length_eq_zero hii
      rw [vbytes_3] at hk ⊢
      rw [show p + (([3] : List UInt8) ++ wB x).length = p + 1 + ((enc x.size).length + x.size) by unfold wB; simp; omega]
      exact zread_3 g A c F k hF d h5 x parts hs64 p R w h (by rw [hk]; unfold wB; simp only [List.append_assoc])
    · obtain rfl := List.eq_nil_of_length_eq_zero hnn
      obtain rfl := List.eq_nil_of_length_eq_zero hii
      rw [vbytes_4] at hk ⊢
      rw [show p + (([4] : List UInt8) ++ wB x).length = p + 1 + ((enc x.size).length + x.size) by unfold wB; simp; omega]
      exact zread_4 g A c F k hF d h5 x parts hnm p R w h (by rw [hk]; unfold wB; simp only [List.append_assoc])
    · obtain rfl := List.eq_nil_of_length_eq_zero hii
      obtain rfl := empty_of_size hx
      rw [vbytes_5] at hk ⊢
      have hk' : k.drop p = [5] ++ (enc names.length ++ (fsB names parts names.length ++ R)) := by rw [hk]; simp only [fsB, List.append_assoc]
      have e : p + ([5] ++ (enc names.length ++ (List.range names.length).flatMap fun i => wB (nth names i) ++ (parts i).bytes)).length = p + 1 + ((enc names.length).length + (fsB names parts names.length).length) := by unfold fsB; simp only [List.length_append, List.length_cons, List.length_nil]; omega
      rw [e]
      exact zread_5 g A c F k hF d h5 names parts h8 hri (fun j hj => ih j (d + 1) (hp j (List.mem_range.2 hj)) (hpin j hj)) p R w h hk'
    · obtain rfl := List.eq_nil_of_length_eq_zero hnn
      obtain rfl := empty_of_size hx
      rw [vbytes_6] at hk ⊢
      have hk' : k.drop p = [6] ++ (enc ids.length ++ (esB ids parts ids.length ++ R)) := by rw [hk]; simp only [esB, List.append_assoc]
      have e : p + ([6] ++ (enc ids.length ++ (List.range ids.length).flatMap fun i => iB ids i ++ (parts i).bytes)).length = p + 1 + ((enc ids.length).length + (esB ids parts ids.length).length) := by unfold esB; simp only [List.length_append, List.length_cons, List.length_nil]; omega
      rw [e]
      exact zread_6 g A c F k hF d h5 ids parts h12 hid hiw (fun j hj => ih j (d + 1) (hp j (List.mem_range.2 hj)) (hpin j hj)) p R w h hk'
end
end

end Go.Proofs.YtkjhmplnamaoaaaGreatDoor
