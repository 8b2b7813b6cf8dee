/- The elements of a list read. -/
import Derived.Test.YtmiadkhfjkaidaaGreatDoorMg18
namespace Go.Proofs.YtmiadkhfjkaidaaGreatDoor
section
set_option maxRecDepth 100000
set_option linter.unusedSimpArgs false
set_option linter.unusedVariables false
open Go.RowKit

theorem u64_info_ : (Tryz.prog.info? 23).map (fun i => (i.zero, i.size, i.bytes)) = some (some (.int .u64 0), 1, 8) := by kernel_rfl
theorem mk_u64_ (x : Int) (w : World) : (Instr.buildSlice 25 1 #[(0, .int .u64 x)]).run Tryz.prog w = .ok (.slice (some ⟨w.heap.size, 0, none⟩) 1 1) (w.alloc (.cells #[.int .u64 x] 23)) := by kernel_rfl
theorem ld_u64s_ {p : Addr} {v : Value} {w : World} (hc : w.cell? p = some v) {a : Option Addr} {n c : Nat} (hv : v = .slice a n c) : (Instr.loadAt 25 (.pointer (some p))).run Tryz.prog w = .ok v w := by
  subst hv
  go_simp
theorem st_u64s_ {p : Addr} {old v : Value} {w : World} (hc : w.cell? p = some old) (hf : w.frozen? p = false) {a : Option Addr} {n c : Nat} (hv : v = .slice a n c) : (Instr.storeAt 25 (.pointer (some p)) v).run Tryz.prog w = .ok () (w.setCell p v) := by
  subst hv
  go_simp
def esB (l : List Int) (parts : Nat → Vt) (n : Nat) : List UInt8 := (List.range n).flatMap fun i => iB l i ++ (parts i).bytes
theorem esB_more (l : List Int) (parts : Nat → Vt) (n : Nat) : esB l parts (n + 1) = esB l parts n ++ (iB l n ++ (parts n).bytes) := by
  unfold esB
  rw [List.range_succ, List.flatMap_append]
  simp
theorem esB_split (l : List Int) (parts : Nat → Vt) {j : Nat} : ∀ {n : Nat}, j ≤ n → ∃ R, esB l parts n = esB l parts j ++ R
  | 0, h => ⟨[], by obtain rfl : j = 0 := by omega
                    simp⟩
  | n + 1, h => by
    by_cases e : j = n + 1
    · subst e
      exact ⟨[], by simp⟩
    · obtain ⟨R, hR⟩ := esB_split l parts (j := j) (n := n) (by omega)
      exact ⟨R ++ (iB l n ++ (parts n).bytes), by rw [esB_more, hR, List.append_assoc]⟩
theorem nums_more (l : List Int) {j : Nat} (hj : j < l.length) : (l.take (j + 1)).map (Value.int .u64) = (l.take j).map (Value.int .u64) ++ [Value.int .u64 (l.getD j 0)] := by
  rw [List.take_add_one, List.map_append]
  simp [hj]
theorem ids_at {l : List Int} (h : idsB l = true) {j : Nat} (hj : j < l.length) : freshB (l.take j) j (l.getD j 0) = true := by
  unfold idsB at h
  have h1 := List.all_eq_true.1 h j (List.mem_range.2 hj)
  rw [Bool.and_eq_true] at h1
  unfold freshB
  rw [h1.1, Bool.true_and, List.all_eq_true]
  intro i hi
  have hij := List.mem_range.1 hi
  have h2 := List.all_eq_true.1 h1.2 i hi
  have e : (l.take j).getD i 0 = l.getD i 0 := by simp [List.getD, List.getElem?_take, hij]
  rw [e]
  exact h2
theorem count12_any (g : Nat) (A : Option Addr) (c : Nat) (F : Nat → Prop) (k : List UInt8) (p n : Nat) (R : List UInt8) (w : World) (h : Rr w g A c F k p 0) (hk : k.drop p = enc n ++ R) (hn : n ≤ 12) :
    Calls Tryz.prog 94 #[.pointer (some ⟨g, 0, none⟩), .int .i64 12] w fun e w' => e = .returned (.int .i64 n) ∧ Readto w w' g A c F k (p + (enc n).length) 0 := by
  have hr := rnumber_ok g A c F k p 18446744073709551615 w h
  rw [rnum_at hk (by omega) (by omega)] at hr
  have HR := Lib.hid hr
  have hn8 : (n : Int) ≤ 12 := by omega
  clear h hk hr
  go_enter Tryz.func94, Tryz.ntmps94
  go_wp2_with fail
  refine HR.out.mono ?_
  rintro e W1 ⟨rfl, hto⟩
  have HT := Lib.hid hto
  clear hto
  go_wp2_with fail
  go_ret
  exact ⟨by first | rfl | (simp), HT.out⟩
theorem vfc_any (q : Addr) (a : Option Addr) (n cap : Nat) (l : List Int) (x : Int) (hn : n ≤ 9223372036854775807) (hf : freshB l n x = true) (w : World) (hq : w.cell? q = some (.slice a n cap)) (h : Nums w a n l) :
    Calls Tryz.prog 175 #[.int .u64 x, .pointer (some q)] w fun e w' => e = .returned (.bool true) ∧ w' = w := by
  have hr := fresh_any a n cap l x hn w h
  rw [hf] at hr
  have HR := Lib.hid hr
  clear hr h hn hf
  go_enter Tryz.func175, Tryz.ntmps175
  go_wp2_with fail
  refine HR.out.mono ?_
  rintro e W1 ⟨rfl, rfl⟩
  go_wp2_with fail
  go_ret
  exact ⟨rfl, rfl⟩
section
variable (g : Nat) (A : Option Addr) (c : Nat) (F : Nat → Prop) (k : List UInt8) (p : Nat)
theorem easked_any (q : Addr) (a : Option Addr) (n cap : Nat) (l : List Int) (m : Nat) (R : List UInt8) (w : World) (h : Rr w g A c F k p 0) (hk : k.drop p = enc m ++ R) (hm : m < 18446744073709551616)
    (hn : n ≤ 9223372036854775807) (hf : freshB l n (m : Int) = true) (hq : w.cell? q = some (.slice a n cap)) (hqg : q.block ≠ g) (hl : Rd w (fun j => j ≠ g) a n (l.map (.int .u64))) :
    Calls Tryz.prog 133 #[.pointer (some ⟨g, 0, none⟩), .func (.func 134) #[] #[], .func (.func 175) #[] #[.pointer (some q)]] w fun e w' => e = .returned (.int .u64 m) ∧ Readto w w' g A c F k (p + (enc m).length) 0 := by
  have HR := Lib.hid (nread_any g A c F k p m R w h hk hm)
  have HA := Lib.hid (show ∀ w1 : World, Only (fun j => j = g) w w1 → Calls Tryz.prog 175 #[.int .u64 (m : Int), .pointer (some q)] w1 fun e w' => e = .returned (.bool true) ∧ w' = w1 from
    fun w1 ho => vfc_any q a n cap l m hn hf w1 ((ho.cell hqg (lt_of_cell hq)).trans hq) ((hl.only ho fun _ h => h).mono fun _ _ _ => trivial))
  clear h hk hf hq hl
  go_enter Tryz.func133, Tryz.ntmps133
  go_wp2_with fail
  refine HR.out.mono ?_
  rintro e W1 ⟨rfl, hto⟩
  have HT := Lib.hid hto
  clear hto
  go_wp2_with fail
  refine (HA.out _ HT.out.only).mono ?_
  rintro e W2 ⟨rfl, rfl⟩
  go_wp2_with fail
  go_ret
  exact ⟨rfl, HT.out⟩
theorem enumber_any (q : Addr) (a : Option Addr) (n cap : Nat) (l : List Int) (m : Nat) (R : List UInt8) (w : World) (h : Rr w g A c F k p 0) (hk : k.drop p = enc m ++ R) (hm : m < 18446744073709551616)
    (hn : n ≤ 9223372036854775807) (hf : freshB l n (m : Int) = true) (hq : w.cell? q = some (.slice a n cap)) (hqg : q.block ≠ g) (hl : Rd w (fun j => j ≠ g) a n (l.map (.int .u64))) :
    Calls Tryz.prog 96 #[.pointer (some ⟨g, 0, none⟩), .func (.func 175) #[] #[.pointer (some q)]] w fun e w' => e = .returned (.int .u64 m) ∧ Readto w w' g A c F k (p + (enc m).length) 0 := by
  have HA := Lib.hid (easked_any g A c F k p q a n cap l m R w h hk hm hn hf hq hqg hl)
  clear h hk hf hq hl
  go_enter Tryz.func96, Tryz.ntmps96
  go_wp2_with fail
  refine HA.out.mono ?_
  rintro e W1 ⟨rfl, hto⟩
  have HT := Lib.hid hto
  clear hto
  go_wp2_with fail
  go_ret
  exact ⟨rfl, HT.out⟩
end

/-- What stands at the head of a round. -/
structure REi (w wr : World) (g : Nat) (A : Option Addr) (c : Nat) (F : Nat → Prop) (k : List UInt8) (p : Nat) (l : List Int) (parts : Nat → Vt) (j : Nat) (v u : Value) (css : Nat → List Value) : Prop where
  box : Row wr w.heap.size 25 [v]
  row : wr.ownsRow (w.heap.size + 1) 23 1 v j ((l.take j).map (Value.int .u64))
  prow : wr.ownsRow (w.heap.size + 1) 28 6 u j ((List.range j).flatMap css)
  pin : ∀ i, i < j → PIn (w.heap.size + 1) wr v u (parts i) (css i)
  rd : Readto w wr g A c F k p 0

set_option maxHeartbeats 3200000 in
theorem eread_any (g : Nat) (A : Option Addr) (c : Nat) (F : Nat → Prop) (k : List UInt8) (p : Nat) (l : List Int) (parts : Nat → Vt) (R : List UInt8) (fq : FuncId) (fn : Func) (caps : Array Value) (w : World) (h : Rr w g A c F k p 0)
    (hfn : Tryz.prog.funcs[fq]? = some fn) (hfm : (fn.name == "runtime.NumGoroutine") = false) (hfb : fn.body.isNone = false)
    (hk : k.drop p = enc l.length ++ (esB l parts l.length ++ R)) (h8 : l.length ≤ 12) (hw : idsB l = true) (hwf : ∀ x ∈ l, (Lit.int .u64 x).wf = true) (hF : ∀ j, F j → j < g)
    (hP : ∀ j, j < l.length → ∀ (w' : World) (p' : Nat) (R' : List UInt8), Only (fun b => b = g) w w' → Rr w' g A c F k p' 0 → k.drop p' = (parts j).bytes ++ R' →
      Calls Tryz.prog fq caps w' fun e w'' => ∃ cs, e = .returned (.agg cs.toArray) ∧ (∃ X, VIn X w'' (parts j) cs ∧ ∀ b, X b → w'.heap.size ≤ b ∧ b < w''.heap.size) ∧ Readto w' w'' g A c F k (p' + (parts j).bytes.length) 0) :
    Calls Tryz.prog 140 #[.pointer (some ⟨g, 0, none⟩), .func (.func fq) #[] caps] w fun e w' => ∃ v u css, e = .returned (.tuple #[v, u]) ∧ REi w w' g A c F k (p + ((enc l.length).length + (esB l parts l.length).length)) l parts l.length v u css := by
  obtain ⟨i0, hi, hz0, hz1, hz2⟩ := info_parts u64_info_
  obtain ⟨k0, hi2, hy0, hy1, hy2⟩ := info_parts sch_info_
  have hgl := h.lt
  have HCT := Lib.hid (count12_any g A c F k p l.length (esB l parts l.length ++ R) (w.alloc (.cells #[.slice none 0 0] 25)) (h.below (below_new w _)) hk h8)
  have HK := Lib.hid hk
  have HWD := Lib.hid hw
  have HWF := Lib.hid hwf
  have HF := Lib.hid hF
  have HP := Lib.hid hP
  obtain ⟨n, hn⟩ : ∃ n, l.length = n := ⟨_, rfl⟩
  rw [hn] at HCT h8 HK HP ⊢
  have HN := Lib.hid hn
  have HBX := Lib.hid (Row.new w [.slice none 0 0] 25)
  clear h hk hw hn hF hP hwf
  go_enter Tryz.func140, Tryz.ntmps140
  go_wp2_with fail
  refine HCT.out.mono ?_
  rintro e W1 ⟨rfl, hto⟩
  have HBX1 := Lib.hid (HBX.out.only hto.only (by omega))
  have HT := Lib.hid (readto_from hto)
  clear hto
  go_wp2_with fail
  go_loopw [5, 8] (fun u i wr => ∃ (j : Nat) (v : Value) (css : Nat → List Value), j ≤ n ∧ i = .int .i64 (j : Int) ∧ REi w wr g A c F k (p + ((enc n).length + (esB l parts j).length)) l parts j v u css) (fun _ i _ => n - (intOf i).toNat)
  case atStart => exact ⟨0, .slice none 0 0, fun _ => [], Nat.zero_le _, rfl, ⟨HBX1.out, World.ownsRow_nil _ _ _ _, World.ownsRow_nil _ _ _ _, fun i hi => absurd hi (Nat.not_lt_zero _), HT.out⟩⟩
  case round =>
    obtain ⟨j, v, css, hjn, rfl, hinv⟩ := hrel
    have HINV := Lib.hid hinv
    have hblt := hinv.box.lt
    clear hinv
    obtain ⟨a, cv, rfl⟩ := own_slice HINV.out.row
    have bj0 : (0 : Int) ≤ (j : Int) := by omega
    by_cases hj : j < n
    · have hji : (j : Int) < (n : Int) := by omega
      have hjl : j < l.length := by rw [HN.out]; exact hj
      have hbc := HINV.out.box.cell (k := 0) rfl
      have hmem : l.getD j 0 ∈ l := by simp [hjl]
      have hbd := wf_u64_lt (HWF.out _ hmem)
      obtain ⟨m, hm⟩ : ∃ m : Nat, l.getD j 0 = (m : Int) := ⟨(l.getD j 0).toNat, by omega⟩
      have hib : iB l j = enc m := by unfold iB; rw [hm]; rfl
      have hm64 : m < 18446744073709551616 := by omega
      have hnew : freshB (l.take j) j (m : Int) = true := by rw [← hm]; exact ids_at HWD.out hjl
      obtain ⟨R2, hR2⟩ := esB_split l parts (j := j + 1) (n := n) (by omega)
      have hkd : k.drop (p + ((enc n).length + (esB l parts j).length)) = enc m ++ ((parts j).bytes ++ (R2 ++ R)) := by
        rw [← Nat.add_assoc]
        refine drop_more (drop_more ?_)
        rw [HK.out, hR2, esB_more]
        rw [hib]
        simp only [List.append_assoc]
      have hkd2 := Lib.hid hkd
      have hrd : Rd wr.drew (fun q => q ≠ g) a j ((l.take j).map (Value.int .u64)) := (Rd.of_own (w := wr.drew) HINV.out.row).mono fun q _ hq => by
        have := (HINV.out.row.lt q hq).1
        omega
      have HW := Lib.hid (enumber_any g A c F k _ ⟨w.heap.size, 0, none⟩ a j cv (l.take j) m ((parts j).bytes ++ (R2 ++ R)) wr.drew (HINV.out.rd.rr.below (Below.refl _ _).drew) hkd hm64 (by omega) hnew hbc (by show w.heap.size ≠ g; omega) hrd)
      have HSM := Lib.hid (show (l.take (j + 1)).map (Value.int .u64) = (l.take j).map (Value.int .u64) ++ [Value.int .u64 (m : Int)] by rw [nums_more l hjl, hm])
      have HWM := Lib.hid (esB_more l parts j)
      have hwl : (iB l j).length = (enc m).length := by rw [hib]
      clear hkd hnew hrd hR2 hmem hbd hm hib
      go_wp2_with fail
      refine startT (fun w' => w'.cell? ⟨w.heap.size, 0, none⟩ = some (.slice a j cv)) [5] (by kernel_rfl) ?_
      have hS0 : wr.drew.cell? ⟨w.heap.size, 0, none⟩ = some (.slice a j cv) := hbc
      refine takeT 0 (some 10) rfl rfl (by kernel_rfl) (by kernel_rfl) (fun _ _ _ h => h) (Reads.load 25 (.tmp 4) rfl _ _ rfl (fun w' h => ld_u64s_ h rfl)) hS0 ?_
      simp only [Act.put, List.setIfInBounds_toArray, List.set_cons_zero, List.set_cons_succ]
      refine takeT 1 (some 11) rfl rfl (by kernel_rfl) (by kernel_rfl) (fun _ _ _ h => h) (Reads.move (x := .tmp 0) rfl rfl) hS0 ?_
      simp only [Act.put, List.setIfInBounds_toArray, List.set_cons_zero, List.set_cons_succ]
      refine takeT 2 (some 12) (v := .func (.func 175) #[] #[.pointer (some ⟨w.heap.size, 0, none⟩)]) rfl rfl (by kernel_rfl) (by kernel_rfl) (fun _ _ _ h => h) (Reads.makeFunc 175 (.tmp 4) rfl _ rfl (fun w' => mk_func_ _ _ w')) hS0 ?_
      simp only [Act.put, List.setIfInBounds_toArray, List.set_cons_zero, List.set_cons_succ]
      refine oneT 3 (by kernel_rfl) rfl (by kernel_rfl) (fun K hK => ?_)
      refine wp_call_any (args := [.pointer (some ⟨g, 0, none⟩), .func (.func 175) #[] #[.pointer (some ⟨w.heap.size, 0, none⟩)]]) rfl Tryz.func96 (by kernel_rfl) (by kernel_rfl) rfl HW.out ?_
      rintro e W3 ⟨rfl, hto3⟩
      refine ⟨_, rfl, ?_⟩
      have hb3 : Row W3 w.heap.size 25 [.slice a j cv] := (show Row wr.drew w.heap.size 25 [.slice a j cv] from HINV.out.box).only hto3.only (by omega)
      have hS3 := hb3.cell (k := 0) rfl
      have ho3 : W3.ownsRow (w.heap.size + 1) 23 1 (.slice a j cv) j ((l.take j).map (Value.int .u64)) := own_only (w := wr.drew) HINV.out.row hto3.only (fun q hq e => by have h1 := (HINV.out.row.lt q hq).1; have h2 : q = g := e; omega)
      have ht3 : Readto w W3 g A c F k _ 0 := ⟨hto3.rr, (HINV.out.rd.only.trans (Only.of_below (Below.refl _ _).drew _) fun _ _ h => h).trans hto3.only fun _ _ h => h⟩
      refine hK.out _ _ (fun _ => hS3) ?_
      clear hK K
      change wpAnyT _ _ _ _ _ _ _ _ (Act.put _ (some 13) _) _
      simp only [Act.put, List.setIfInBounds_toArray, List.set_cons_zero, List.set_cons_succ]
      have hb4 := hb3.alloc (.cells #[.int .u64 (m : Int)] 23)
      have ho4 := ho3.alloc (.cells #[.int .u64 (m : Int)] 23)
      have ht4 := readto_new ht3 (.cells #[.int .u64 (m : Int)] 23)
      refine oneT 4 (by kernel_rfl) rfl (by kernel_rfl) (fun K hK => ?_)
      refine wp_slice1 25 23 (.tmp 13) rfl (.int .u64 (m : Int)) rfl #[.int .u64 (m : Int)] (fun w' => mk_u64_ _ w') ?_
      refine hK.out _ _ (fun _ => hb4.cell (k := 0) rfl) ?_
      clear hK K
      change wpAnyT _ _ _ _ _ _ _ _ (Act.put _ (some 14) _) _
      simp only [Act.put, List.setIfInBounds_toArray, List.set_cons_zero, List.set_cons_succ]
      have hsz3 := hb3.lt
      refine oneT 5 (by kernel_rfl) rfl (by kernel_rfl) (fun K hK => ?_)
      refine wp_append_at (.tmp 10) (.tmp 14) 25 rfl (w.heap.size + 1) 23 i0 (.int .u64 0) 1 8 Tryz.underlying25 hi hz0 hz1 hz2 rfl (by decide) (.slice a j cv) j _ rfl ho4 ⟨W3.heap.size, 0, none⟩ 1 1 [.int .u64 (m : Int)] rfl rfl (Go.cell_one_new W3 (.int .u64 (m : Int)) _) (by intro u hu; simp at hu; subst hu; rfl) (by unfold maxLen; omega) (by omega) (by simp; omega) (fun v5 W5 ho5 hg5 hat5 => ?_)
      refine hK.out _ _ (late_ok_ (by kernel_rfl)) ?_
      clear hK K
      change wpAnyT _ _ _ _ _ _ _ _ (Act.put _ (some 15) _) _
      simp only [Act.put, List.setIfInBounds_toArray, List.set_cons_zero, List.set_cons_succ]
      have hno : ∀ q, (Value.slice a j cv).ownBlock = some q → w.heap.size + 1 ≤ q := fun q hq => (ho4.lt q hq).1
      have ht5 := readto_grown ht4 hgl HF.out hg5 (fun q hq => by have := hno q hq; omega)
      have hb5 : Row W5 w.heap.size 25 [.slice a j cv] := hb4.only (only_grown hg5) (fun e => by have := hno _ e; omega)
      have HA5 := Lib.hid (show v5.ownBlock = (Value.slice a j cv).ownBlock ∨ ∃ b, v5.ownBlock = some b ∧ wr.heap.size ≤ b from hat5.imp id fun e => ⟨_, e, by have h1 := hto3.only.size; have h2 : wr.drew.heap.size = wr.heap.size := rfl; simp; omega⟩)
      clear hat5
      obtain ⟨a5, c5, rfl⟩ := own_slice ho5
      refine oneT 6 (by kernel_rfl) rfl (by kernel_rfl) (fun K hK => ?_)
      refine wp_store_cell 25 (.tmp 4) (.tmp 15) rfl ⟨w.heap.size, 0, none⟩ rfl (.slice a5 (j + 1) c5) rfl (st_u64s_ (hb5.cell (k := 0) rfl) (hb5.free 0) rfl) ?_
      refine hK.out _ _ (late_ok_ (by kernel_rfl)) ?_
      clear hK K
      change wpAnyT _ _ _ _ _ _ _ _ (Act.put _ none _) _
      simp only [Act.put, List.setIfInBounds_toArray, List.set_cons_zero, List.set_cons_succ]
      refine doneT (by kernel_rfl) ?_ _
      have hne5 := own_ne HINV.out.row HINV.out.prow (by decide)
      have hO6 : Only (fun b => b = g ∨ b = w.heap.size ∨ (Value.slice a j cv).ownBlock = some b) wr (W5.setCell ⟨w.heap.size, 0, none⟩ (.slice a5 (j + 1) c5)) :=
        (((((Only.of_below (Below.refl _ _).drew _).trans hto3.only fun _ _ h => .inl h).alloc (.cells #[.int .u64 (m : Int)] 23)).trans (only_grown hg5) fun _ _ h => .inr (.inr h))).setCell (.inl (.inr (.inl rfl))) _
      have HO6 := Lib.hid hO6
      have HB6 := Lib.hid (show Row (W5.setCell ⟨w.heap.size, 0, none⟩ (.slice a5 (j + 1) c5)) w.heap.size 25 [.slice a5 (j + 1) c5] from hb5.set 0 _)
      have HR6 := Lib.hid (own_set_ ho5 (p := ⟨w.heap.size, 0, none⟩) (by show w.heap.size < _; omega) (.slice a5 (j + 1) c5))
      have HT6 := Lib.hid (show Readto w (W5.setCell ⟨w.heap.size, 0, none⟩ (.slice a5 (j + 1) c5)) g A c F k (p + ((enc n).length + (esB l parts j).length) + ((enc m).length)) 0 from
        ⟨ht5.rr.only (Only.setCell (S := fun q => q = w.heap.size) (Only.refl _ _) (.inl rfl) _) (by show ¬ g = w.heap.size; omega) (fun q hq e => by have h1 := HF.out q hq; have h2 : q = w.heap.size := e; omega), ht5.only.trans (Only.setCell (S := fun q => q = w.heap.size) (Only.refl _ _) (.inl rfl) _) fun q hq e => by have h2 : q = w.heap.size := e; omega⟩)
      have HU6 := Lib.hid (own_only HINV.out.prow hO6 (fun q hq h => by
        have h1 := (HINV.out.prow.lt q hq).1
        rcases h with h | h | h
        · omega
        · omega
        · rcases hne5 with e | e
          · rw [e] at h; cases h
          · exact e (h.trans hq.symm)))
      generalize W5.setCell ⟨w.heap.size, 0, none⟩ (.slice a5 (j + 1) c5) = W6 at *
      have hOg : Only (fun b => b = g) w W6 := HT6.out.only
      have hkd3 : k.drop (p + ((enc n).length + (esB l parts j).length) + ((enc m).length)) = (parts j).bytes ++ (R2 ++ R) := by
        exact drop_more hkd2.out
      have HC := Lib.hid (show Calls Tryz.prog fq (([] : List Value).toArray ++ caps) W6 _ from by simpa using HP.out j hj W6 _ (R2 ++ R) hOg HT6.out.rr hkd3)
      clear hkd3 hOg
      go_wp2_with (refine wpList_call_fn rfl (x := .tmp 17) (xs := []) rfl rfl hfn hfm hfb rfl HC.out ?_)
      intro e W7 ds he X hX hXb hto7
      subst he
      refine ⟨_, rfl, ?_⟩
      obtain ⟨kd, nd, sd, ad, lad, cad, bd, lbd, cbd, ed, led, ced, rfl⟩ := hX.form
      have HX := Lib.hid hX
      have HXB := Lib.hid hXb
      have HT7 := Lib.hid hto7
      have HU7 := Lib.hid (own_only HU6.out hto7.only (fun q hq e => by have h1 := (HU6.out.lt q hq).1; have h2 : q = g := e; omega))
      clear hX hXb hto7
      have HU8 := Lib.hid (HU7.out.alloc (.cells #[.int .i64 kd, .int .i64 nd, .string sd, .slice ad lad cad, .slice bd lbd cbd, .slice ed led ced] 28))
      have HRN := Lib.hid (Row.new W7 [.int .i64 kd, .int .i64 nd, .string sd, .slice ad lad cad, .slice bd lbd cbd, .slice ed led ced] 28)
      have hs67 := HT7.out.only.size
      have hs6 := HT6.out.only.size
      have hb6 := HB6.out.lt
      have hgB : g < w.heap.size := hgl
      go_wp2_with (at_builtin; refine wpList_append_own_at _ rfl (.tmp 16) (.tmp 19) 26 rfl (w.heap.size + 1) 28 k0 (.agg #[.int .i64 0, .int .i64 0, .string ByteArray.empty, .slice none 0 0, .slice none 0 0, .slice none 0 0]) 6 104 Tryz.underlying26 hi2 hy0 hy1 hy2 rfl (by omega) u5 j ((List.range j).flatMap css) rfl HU8.out ⟨W7.heap.size, 0, none⟩ 1 1 [.int .i64 kd, .int .i64 nd, .string sd, .slice ad lad cad, .slice bd lbd cbd, .slice ed led ced] rfl rfl ?cn ?co ?c1 ?c2 ?c3 ?_)
      case cn =>
        intro j u hu
        have ea : (⟨W7.heap.size, 0, none⟩ : Addr).add j = ⟨W7.heap.size, j, none⟩ := by unfold Addr.add; split <;> simp_all
        rw [ea]
        exact HRN.out.cell hu
      case co => intro u hu; simp at hu; rcases hu with rfl | rfl | rfl | rfl | rfl | rfl <;> rfl
      case c1 => unfold maxLen; omega
      case c2 => omega
      case c3 => simp; omega
      intro u9 W9 hown9 hg9 hex9 hat9
      have HO9 := Lib.hid hown9
      have HG9 := Lib.hid hg9
      have HA9 := Lib.hid hat9
      clear hown9 hg9 hat9
      have hu5lt : ∀ q, u5.ownBlock = some q → q < W6.heap.size := fun q hq => (HU6.out.lt q hq).2
      have hv5lt : ∀ q, (Value.slice a5 (j + 1) c5).ownBlock = some q → q < W6.heap.size := fun q hq => (HR6.out.lt q hq).2
      have hu5lo : ∀ q, u5.ownBlock = some q → w.heap.size + 1 ≤ q := fun q hq => (HU6.out.lt q hq).1
      have hs9 := HG9.out.size
      have h89 : W7.heap.size + 1 ≤ W9.heap.size := by simpa using hs9
      have h9 : Only (fun q => u5.ownBlock = some q) W7 W9 := ((Only.refl _ _).alloc _).trans (only_grown HG9.out) fun _ _ h => h
      have h69 : Only (fun q => q = g ∨ u5.ownBlock = some q) W6 W9 := ((Only.refl (fun q => q = g ∨ u5.ownBlock = some q) W6).trans HT7.out.only (fun _ _ h => .inl h)).trans h9 (fun _ _ h => .inr h)
      have HN2 := Lib.hid (show REi w W9 g A c F k (p + ((enc n).length + (esB l parts (j + 1)).length)) l parts (j + 1) (.slice a5 (j + 1) c5) u9 (fun i => if i = j then [.int .i64 kd, .int .i64 nd, .string sd, .slice ad lad cad, .slice bd lbd cbd, .slice ed led ced] else css i) from by
        refine ⟨HB6.out.only h69 (fun e => by rcases e with e | e; omega; have := hu5lo _ e; omega), ?_, ?_, ?_, ?_⟩
        · rw [HSM.out]
          refine own_only HR6.out h69 fun q hq e => ?_
          rcases e with e | e
          · have := (HR6.out.lt q hq).1; omega
          · rcases own_ne HR6.out HU6.out (by decide) with h | h
            · rw [h] at hq; cases hq
            · exact h (hq.trans e.symm)
        · rw [flat_more]
          exact HO9.out
        · intro i hi
          by_cases e : i = j
          · subst e
            rw [if_pos rfl]
            refine ⟨X, HX.out.kept h9.size fun b hX hb => ⟨hX, h9.block b hb fun h => ?_⟩, fun b hX => ?_⟩
            · have := hu5lt b h; have := HXB.out b hX; omega
            · have h1 := HXB.out b hX
              refine ⟨by omega, by omega, fun h => ?_, fun h => ?_⟩
              · have := hv5lt b h; omega
              · rcases HA9.out with h2 | h2
                · rw [h2] at h; have := hu5lt b h; omega
                · rw [h2] at h; simp at h; omega
          · rw [if_neg e]
            have p6 : PIn (w.heap.size + 1) W6 (.slice a5 (j + 1) c5) u5 (parts i) (css i) := (HINV.out.pin i (by omega)).only HO6.out (fun b hb => by rcases hb with hb | hb | hb; (left; omega); (left; omega); exact .inr (.inl hb)) HA5.out (.inl rfl)
            refine p6.only h69 (fun b hb => by rcases hb with hb | hb; (left; omega); exact .inr (.inr hb)) (.inl rfl) ?_
            rcases HA9.out with h2 | h2
            · exact .inl h2
            · exact .inr ⟨_, h2, by omega⟩
        · have e : p + ((enc n).length + (esB l parts j).length) + ((enc m).length) + (parts j).bytes.length = p + ((enc n).length + (esB l parts (j + 1)).length) := by rw [HWM.out, List.length_append, List.length_append, hwl]; omega
          have h1 := readto_new (readto_trans HT6.out HT7.out) (.cells #[.int .i64 kd, .int .i64 nd, .string sd, .slice ad lad cad, .slice bd lbd cbd, .slice ed led ced] 28)
          rw [e] at h1
          exact readto_grown h1 hgl HF.out HG9.out fun q hq => by have := hu5lo q hq; omega)
      go_wp2_with fail
      go_roundw
      case rel => exact ⟨j + 1, _, _, by omega, by go_num, HN2.out⟩
      case measure => simp [intOf] <;> omega
    · obtain rfl : j = n := by omega
      have hb2 : Row (wr.setCell ⟨w.heap.size, 0, none⟩ (.slice a j cv)) w.heap.size 25 [.slice a j cv] := HINV.out.box.set 0 _
      have hbc := HINV.out.box.cell (k := 0) rfl
      have hbf := HINV.out.box.free 0
      have hbc2 := hb2.cell (k := 0) rfl
      have hres : Tryz.f140.results = #[.cell 4 25, .tmp 5] := by kernel_rfl
      have hO : Only (fun q => q = w.heap.size) wr (wr.setCell ⟨w.heap.size, 0, none⟩ (.slice a j cv)) := Only.setCell (S := fun q => q = w.heap.size) (Only.refl _ _) (.inl rfl) _
      have HFIN := Lib.hid (show REi w (wr.setCell ⟨w.heap.size, 0, none⟩ (.slice a j cv)) g A c F k (p + ((enc j).length + (esB l parts j).length)) l parts j (.slice a j cv) u5 css from
        ⟨hb2, own_set_ HINV.out.row (by show w.heap.size < _; omega) _, own_set_ HINV.out.prow (by show w.heap.size < _; omega) _, fun i hi => (HINV.out.pin i hi).only hO (fun b hb => .inl (by have h2 : b = w.heap.size := hb; omega)) (.inl rfl) (.inl rfl),
          ⟨HINV.out.rd.rr.only hO (by show ¬ g = w.heap.size; omega) (fun q hq e => by have h1 := HF.out q hq; have h2 : q = w.heap.size := e; omega), HINV.out.rd.only.trans hO fun q hq e => by have h2 : q = w.heap.size := e; omega⟩⟩)
      go_wp2_with fail
      (try simp only [Exit.inBlock, Exit.then])
      refine bodyPost_ret (v := .tuple #[.slice a j cv, u5]) ?_ rfl ⟨_, _, _, rfl, HFIN.out⟩
      simp only [results, hres]
      go_simp
end

end Go.Proofs.YtmiadkhfjkaidaaGreatDoor
