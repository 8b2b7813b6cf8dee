/- A list of two values, and a list schema of one, copied. -/
import Derived.Test.YtmiadkhfjkaidaaGreatDoorMg35
import Derived.Test.YtmiadkhfjkaidaaGreatDoorMg36
import Derived.Test.YtmiadkhfjkaidaaGreatDoorMg34
namespace Go.Proofs.YtmiadkhfjkaidaaGreatDoor
section
set_option maxRecDepth 100000
set_option linter.unusedSimpArgs false
set_option linter.unusedVariables false
open Go.RowKit

theorem cl_sch (w : World) : Calls Tryz.prog 153 #[.slice none 0 0] w fun e w' => e = .returned (.slice none 0 0) ∧ Below w.heap.size w w' := by
  have qT : ∀ (w : World) (a : Option Addr) (n c n' c' : Nat), (binOp .eql 46 (.slice a n c) (.slice none n' c')).run Tryz.prog w = .ok (.bool a.isNone) w := fun w a n c n' c' => Lib.run_eql_slice_nil w _ _ a n c n' c' Tryz.underlying46
  go_enter Tryz.func153, Tryz.ntmps153
  go_wp2_with fail
  go_ret
  exact ⟨rfl, Below.refl _ _⟩
theorem info_u64J : ∃ i z, Tryz.prog.info? 23 = some i ∧ i.zero = some z ∧ i.size = 1 ∧ i.bytes = 8 ∧ z.cells.size = 1 := ⟨(Tryz.prog.info? 23).get!, (Tryz.prog.info? 23).get!.zero.get!, by kernel_rfl, by kernel_rfl, by kernel_rfl, by kernel_rfl, by kernel_rfl⟩
theorem info_valJ : ∃ i z, Tryz.prog.info? 28 = some i ∧ i.zero = some z ∧ i.size = 6 ∧ i.bytes = 104 ∧ z.cells.size = 6 := ⟨(Tryz.prog.info? 28).get!, (Tryz.prog.info? 28).get!.zero.get!, by kernel_rfl, by kernel_rfl, by kernel_rfl, by kernel_rfl, by kernel_rfl⟩
theorem info_schJ : ∃ i z, Tryz.prog.info? 48 = some i ∧ i.zero = some z ∧ i.size = 3 ∧ i.bytes = 56 ∧ z.cells.size = 3 := ⟨(Tryz.prog.info? 48).get!, (Tryz.prog.info? 48).get!.zero.get!, by kernel_rfl, by kernel_rfl, by kernel_rfl, by kernel_rfl, by kernel_rfl⟩
theorem below_more {w w1 w2 : World} (h : Below w.heap.size w w1) (h2 : Below w1.heap.size w1 w2) : Below w.heap.size w w2 := h.trans (h2.mono h.size)
theorem ldp_schs {a : Addr} {v : Value} {w : World} (h : w.cell? a = some v) : (Instr.loadAt 46 (.pointer (some a))).run Tryz.prog w = .ok v w := by go_simp
set_option maxHeartbeats 1600000 in
theorem clu_any (ad : Addr) (n c : Nat) (news : List Value) (w : World) (hl : news.length = n * 1) (hn : n ≤ 100) (hc : ∀ j u, news[j]? = some u → w.cell? (ad.add j) = some u) (h1 : ∀ u ∈ news, u.oneCell' = true) :
    Calls Tryz.prog 69 #[.slice (some ad) n c] w fun e w' => ∃ v', e = .returned v' ∧ w'.ownsRow w.heap.size 23 1 v' n news ∧ Below w.heap.size w w' := by
  obtain ⟨i, z, hi, hz, hs, hb, hzs⟩ := info_u64J
  have qT : ∀ (w : World) (a : Option Addr) (n c n' c' : Nat), (binOp .eql 25 (.slice a n c) (.slice none n' c')).run Tryz.prog w = .ok (.bool a.isNone) w := fun w a n c n' c' => Lib.run_eql_slice_nil w _ _ a n c n' c' Tryz.underlying25
  have HC := Lib.hid hc
  have H1 := Lib.hid h1
  clear hc h1
  go_enter Tryz.func69, Tryz.ntmps69
  go_wp2_with (at_builtin; refine wpList_append_rdJ rfl (.tmp 5) (.tmp 6) 25 rfl w.heap.size 23 i z 1 8 Tryz.underlying25 hi hz hs hb hzs (by omega) _ 0 [] rfl (World.ownsRow_made w #[] 0 (Nat.le_refl _) (Nat.zero_le _) (by simp)) (some ad) n c news rfl hl ?q1 H1.out ?q2 ?q3 ?q4 ?_)
  case q1 => exact fun _ => ⟨ad, rfl, fun j u hj => Lib.cell?_alloc_some _ (HC.out j u hj)⟩
  case q2 => unfold maxLen; omega
  case q3 => omega
  case q4 => simp
  intro v' w1 hown hgrow
  have HOWN := Lib.hid hown
  have HGROW := Lib.hid hgrow
  clear hown hgrow
  go_wp2_with fail
  go_ret
  refine ⟨v', rfl, by simpa using HOWN.out, ?_⟩
  exact ((Below.refl _ w).alloc (Nat.le_refl _) _).grown HGROW.out (by simp) (by intro k hk; simp [Value.ownBlock] at hk; omega)
set_option maxHeartbeats 1600000 in
theorem clv_any (ad : Addr) (n c : Nat) (news : List Value) (w : World) (hl : news.length = n * 6) (hn : n ≤ 100) (hc : ∀ j u, news[j]? = some u → w.cell? (ad.add j) = some u) (h1 : ∀ u ∈ news, u.oneCell' = true) :
    Calls Tryz.prog 70 #[.slice (some ad) n c] w fun e w' => ∃ v', e = .returned v' ∧ w'.ownsRow w.heap.size 28 6 v' n news ∧ Below w.heap.size w w' := by
  obtain ⟨i, z, hi, hz, hs, hb, hzs⟩ := info_valJ
  have qT : ∀ (w : World) (a : Option Addr) (n c n' c' : Nat), (binOp .eql 26 (.slice a n c) (.slice none n' c')).run Tryz.prog w = .ok (.bool a.isNone) w := fun w a n c n' c' => Lib.run_eql_slice_nil w _ _ a n c n' c' Tryz.underlying26
  have HC := Lib.hid hc
  have H1 := Lib.hid h1
  clear hc h1
  go_enter Tryz.func70, Tryz.ntmps70
  go_wp2_with (at_builtin; refine wpList_append_rdJ rfl (.tmp 5) (.tmp 6) 26 rfl w.heap.size 28 i z 6 104 Tryz.underlying26 hi hz hs hb hzs (by omega) _ 0 [] rfl (World.ownsRow_made w #[] 0 (Nat.le_refl _) (Nat.zero_le _) (by simp)) (some ad) n c news rfl hl ?q1 H1.out ?q2 ?q3 ?q4 ?_)
  case q1 => exact fun _ => ⟨ad, rfl, fun j u hj => Lib.cell?_alloc_some _ (HC.out j u hj)⟩
  case q2 => unfold maxLen; omega
  case q3 => omega
  case q4 => simp
  intro v' w1 hown hgrow
  have HOWN := Lib.hid hown
  have HGROW := Lib.hid hgrow
  clear hown hgrow
  go_wp2_with fail
  go_ret
  refine ⟨v', rfl, by simpa using HOWN.out, ?_⟩
  exact ((Below.refl _ w).alloc (Nat.le_refl _) _).grown HGROW.out (by simp) (by intro k hk; simp [Value.ownBlock] at hk; omega)
set_option maxHeartbeats 1600000 in
theorem cls_any (ad : Addr) (n c : Nat) (news : List Value) (w : World) (hl : news.length = n * 3) (hn : n ≤ 100) (hc : ∀ j u, news[j]? = some u → w.cell? (ad.add j) = some u) (h1 : ∀ u ∈ news, u.oneCell' = true) :
    Calls Tryz.prog 153 #[.slice (some ad) n c] w fun e w' => ∃ v', e = .returned v' ∧ w'.ownsRow w.heap.size 48 3 v' n news ∧ Below w.heap.size w w' := by
  obtain ⟨i, z, hi, hz, hs, hb, hzs⟩ := info_schJ
  have qT : ∀ (w : World) (a : Option Addr) (n c n' c' : Nat), (binOp .eql 46 (.slice a n c) (.slice none n' c')).run Tryz.prog w = .ok (.bool a.isNone) w := fun w a n c n' c' => Lib.run_eql_slice_nil w _ _ a n c n' c' Tryz.underlying46
  have HC := Lib.hid hc
  have H1 := Lib.hid h1
  clear hc h1
  go_enter Tryz.func153, Tryz.ntmps153
  go_wp2_with (at_builtin; refine wpList_append_rdJ rfl (.tmp 5) (.tmp 6) 46 rfl w.heap.size 48 i z 3 56 Tryz.underlying46 hi hz hs hb hzs (by omega) _ 0 [] rfl (World.ownsRow_made w #[] 0 (Nat.le_refl _) (Nat.zero_le _) (by simp)) (some ad) n c news rfl hl ?q1 H1.out ?q2 ?q3 ?q4 ?_)
  case q1 => exact fun _ => ⟨ad, rfl, fun j u hj => Lib.cell?_alloc_some _ (HC.out j u hj)⟩
  case q2 => unfold maxLen; omega
  case q3 => omega
  case q4 => simp
  intro v' w1 hown hgrow
  have HOWN := Lib.hid hown
  have HGROW := Lib.hid hgrow
  clear hown hgrow
  go_wp2_with fail
  go_ret
  refine ⟨v', rfl, by simpa using HOWN.out, ?_⟩
  exact ((Below.refl _ w).alloc (Nat.le_refl _) _).grown HGROW.out (by simp) (by intro k hk; simp [Value.ownBlock] at hk; omega)

set_option maxHeartbeats 6400000 in
theorem own_V2 (g : Nat) (w : World) (ids : List Value) (parts : List Value) (hids : ids.length = 2) (hparts : parts.length = 12) (N S : Value) (ib icap pb pcap : Nat) (hi : Cells w ib ids) (hp : Cells w pb parts) (hi1 : ∀ u ∈ ids, u.oneCell' = true) (hp1 : ∀ u ∈ parts, u.oneCell' = true) (h : Row w g 28 [.int .i64 6, N, S, .slice none 0 0, .slice (some ⟨ib, 0, none⟩) 2 icap, .slice (some ⟨pb, 0, none⟩) 2 pcap]) :
    Calls Tryz.prog 67 #[.pointer (some ⟨g, 0, none⟩)] w fun e w' => e = .returned (.tuple #[]) ∧ ∃ v4 v5, Row w' g 28 [.int .i64 6, N, S, .slice none 0 0, v4, v5] ∧ w'.ownsRow w.heap.size 23 1 v4 2 ids ∧ w'.ownsRow w.heap.size 28 6 v5 2 parts ∧ Only (fun j => j = g) w w' := by
  have HR := Lib.hid (fun (w' : World) (hb : Below w.heap.size w w') => h.belowAll hb)
  have HI := Lib.hid (fun (w' : World) (hb : Below w.heap.size w w') => hi.below hb)
  have HP := Lib.hid (fun (w' : World) (hb : Below w.heap.size w w') => hp.below hb)
  have hgl := h.lt
  clear h hi hp
  have hS0 : (fun w' : World => Below w.heap.size w w') w.drew := (Below.refl _ _).drew
  go_enter Tryz.func67, Tryz.ntmps67
  go_wp2_with fail
  refine wp_region_till 20 (fun w' : World => Below w.heap.size w w') (by kernel_rfl) ?_
  change wpTill _ _ _ _ _ _ _ _ _ (World.drew _)
  have hS := hS0
  clear hS0
  refine wpTill_take (i := 0) (v := ?_) rfl (by decide) (by kernel_rfl) (by kernel_rfl) (by kernel_rfl) (fun _ _ _ h => h) (by rfl) ?_ hS ?_
  rotate_left
  · (intro w'; go_simp; try (with_reducible rfl))
  change wpTill _ _ _ _ _ _ _ _ (Act.put _ (some 2) _) _
  try simp only [Act.put, List.setIfInBounds_toArray, List.set_cons_zero, List.set_cons_succ]
  refine wpTill_take (i := 1) (v := ?_) rfl (by decide) (by kernel_rfl) (by kernel_rfl) (by kernel_rfl) (fun _ _ _ h => h) (by rfl) ?_ hS ?_
  rotate_left
  · (intro w'; go_simp; try (with_reducible rfl))
  change wpTill _ _ _ _ _ _ _ _ (Act.put _ (some 3) _) _
  try simp only [Act.put, List.setIfInBounds_toArray, List.set_cons_zero, List.set_cons_succ]
  refine wpTill_take (i := 2) (v := ?_) rfl (by decide) (by kernel_rfl) (by kernel_rfl) (by kernel_rfl) (fun _ _ _ h => h) (by rfl) ?_ hS ?_
  rotate_left
  · (intro w'; go_simp; try (with_reducible rfl))
  change wpTill _ _ _ _ _ _ _ _ (Act.put _ (some 4) _) _
  try simp only [Act.put, List.setIfInBounds_toArray, List.set_cons_zero, List.set_cons_succ]
  refine wpTill_take (i := 3) (v := ?_) rfl (by decide) (by kernel_rfl) (by kernel_rfl) (by kernel_rfl) (fun _ _ _ h => h) (by rfl) ?_ hS ?_
  rotate_left
  · (intro w'; go_simp; try (with_reducible rfl))
  change wpTill _ _ _ _ _ _ _ _ (Act.put _ (some 5) _) _
  try simp only [Act.put, List.setIfInBounds_toArray, List.set_cons_zero, List.set_cons_succ]
  refine wpTill_take (i := 4) (v := ?_) rfl (by decide) (by kernel_rfl) (by kernel_rfl) (by kernel_rfl) (fun _ _ _ h => h) (by rfl) ?_ hS ?_
  rotate_left
  · (intro w'; go_simp; try (with_reducible rfl))
  change wpTill _ _ _ _ _ _ _ _ (Act.put _ (some 6) _) _
  try simp only [Act.put, List.setIfInBounds_toArray, List.set_cons_zero, List.set_cons_succ]
  refine wpTill_take (i := 5) (v := ?_) rfl (by decide) (by kernel_rfl) (by kernel_rfl) (by kernel_rfl) (fun _ _ _ h => h) (by rfl) ?_ hS ?_
  rotate_left
  · (intro w'; go_simp; try (with_reducible rfl))
  change wpTill _ _ _ _ _ _ _ _ (Act.put _ (some 7) _) _
  try simp only [Act.put, List.setIfInBounds_toArray, List.set_cons_zero, List.set_cons_succ]
  refine wpTill_load (i := 6) (v := .slice none 0 0) rfl (by decide) (by kernel_rfl) (by kernel_rfl) (by kernel_rfl) (fun _ _ _ h => h) (by kernel_rfl) (by rfl) (fun w' hSw => ex_ldO 24 (.tmp 7) rfl _ _ rfl (ldp_strs ((HR.out w' hSw).cell (k := 3) rfl))) hS ?_
  change wpTill _ _ _ _ _ _ _ _ (Act.put _ (some 8) _) _
  try simp only [Act.put, List.setIfInBounds_toArray, List.set_cons_zero, List.set_cons_succ]
  refine wpTill_take (i := 8) (v := ?_) rfl (by decide) (by kernel_rfl) (by kernel_rfl) (by kernel_rfl) (fun _ _ _ h => h) (by rfl) ?_ hS ?_
  rotate_left
  · (intro w'; go_simp; try (with_reducible rfl))
  change wpTill _ _ _ _ _ _ _ _ (Act.put _ (some 10) _) _
  try simp only [Act.put, List.setIfInBounds_toArray, List.set_cons_zero, List.set_cons_succ]
  refine wpTill_take (i := 9) (v := ?_) rfl (by decide) (by kernel_rfl) (by kernel_rfl) (by kernel_rfl) (fun _ _ _ h => h) (by rfl) ?_ hS ?_
  rotate_left
  · (intro w'; go_simp; try (with_reducible rfl))
  change wpTill _ _ _ _ _ _ _ _ (Act.put _ (some 11) _) _
  try simp only [Act.put, List.setIfInBounds_toArray, List.set_cons_zero, List.set_cons_succ]
  refine wpTill_take (i := 10) (v := ?_) rfl (by decide) (by kernel_rfl) (by kernel_rfl) (by kernel_rfl) (fun _ _ _ h => h) (by rfl) ?_ hS ?_
  rotate_left
  · (intro w'; go_simp; try (with_reducible rfl))
  change wpTill _ _ _ _ _ _ _ _ (Act.put _ (some 12) _) _
  try simp only [Act.put, List.setIfInBounds_toArray, List.set_cons_zero, List.set_cons_succ]
  refine wpTill_load (i := 11) (v := .slice (some ⟨ib, 0, none⟩) 2 icap) rfl (by decide) (by kernel_rfl) (by kernel_rfl) (by kernel_rfl) (fun _ _ _ h => h) (by kernel_rfl) (by rfl) (fun w' hSw => ex_ldO 25 (.tmp 12) rfl _ _ rfl (ld_u64s ((HR.out w' hSw).cell (k := 4) rfl))) hS ?_
  change wpTill _ _ _ _ _ _ _ _ (Act.put _ (some 13) _) _
  try simp only [Act.put, List.setIfInBounds_toArray, List.set_cons_zero, List.set_cons_succ]
  refine wpTill_take (i := 13) (v := ?_) rfl (by decide) (by kernel_rfl) (by kernel_rfl) (by kernel_rfl) (fun _ _ _ h => h) (by rfl) ?_ hS ?_
  rotate_left
  · (intro w'; go_simp; try (with_reducible rfl))
  change wpTill _ _ _ _ _ _ _ _ (Act.put _ (some 15) _) _
  try simp only [Act.put, List.setIfInBounds_toArray, List.set_cons_zero, List.set_cons_succ]
  refine wpTill_take (i := 14) (v := ?_) rfl (by decide) (by kernel_rfl) (by kernel_rfl) (by kernel_rfl) (fun _ _ _ h => h) (by rfl) ?_ hS ?_
  rotate_left
  · (intro w'; go_simp; try (with_reducible rfl))
  change wpTill _ _ _ _ _ _ _ _ (Act.put _ (some 16) _) _
  try simp only [Act.put, List.setIfInBounds_toArray, List.set_cons_zero, List.set_cons_succ]
  refine wpTill_take (i := 15) (v := ?_) rfl (by decide) (by kernel_rfl) (by kernel_rfl) (by kernel_rfl) (fun _ _ _ h => h) (by rfl) ?_ hS ?_
  rotate_left
  · (intro w'; go_simp; try (with_reducible rfl))
  change wpTill _ _ _ _ _ _ _ _ (Act.put _ (some 17) _) _
  try simp only [Act.put, List.setIfInBounds_toArray, List.set_cons_zero, List.set_cons_succ]
  refine wpTill_load (i := 16) (v := .slice (some ⟨pb, 0, none⟩) 2 pcap) rfl (by decide) (by kernel_rfl) (by kernel_rfl) (by kernel_rfl) (fun _ _ _ h => h) (by kernel_rfl) (by rfl) (fun w' hSw => ex_ldO 26 (.tmp 17) rfl _ _ rfl (ldp_vals ((HR.out w' hSw).cell (k := 5) rfl))) hS ?_
  change wpTill _ _ _ _ _ _ _ _ (Act.put _ (some 18) _) _
  try simp only [Act.put, List.setIfInBounds_toArray, List.set_cons_zero, List.set_cons_succ]
  refine wpTill_one (i := 7) (by decide) (by kernel_rfl) ?_
  refine wpOp_step rfl (fun K hK => ?_)
  rw [if_pos (by kernel_rfl)]
  go_simp
  refine (cl_str _).mono ?_
  rintro e X3 ⟨rfl, hb⟩
  have hS1 : Below w.heap.size w X3 := hS.trans (hb.mono hS.size)
  refine hK _ _ ⟨hS1, ?_⟩
  clear hK K hS hb
  have hS := hS1
  clear hS1
  try simp only [Act.put, List.setIfInBounds_toArray, List.set_cons_zero, List.set_cons_succ]
  refine wpTill_one (i := 12) (by decide) (by kernel_rfl) ?_
  refine wpOp_step rfl (fun K hK => ?_)
  rw [if_pos (by kernel_rfl)]
  go_simp
  refine (clu_any ⟨ib, 0, none⟩ 2 icap ids _ hids (by omega) (fun j u hj => by rw [add0J]; exact HI.out _ hS j u hj) hi1).mono ?_
  rintro e X4 ⟨u4, rfl, ho, hb⟩
  have hS1 : Below w.heap.size w X4 := hS.trans (hb.mono hS.size)
  have ho4 := own_base ho hS.size
  refine hK _ _ ⟨hS1, ?_⟩
  clear hK K hS hb ho
  have hS := hS1
  clear hS1
  try simp only [Act.put, List.setIfInBounds_toArray, List.set_cons_zero, List.set_cons_succ]
  refine wpTill_one (i := 17) (by decide) (by kernel_rfl) ?_
  refine wpOp_step rfl (fun K hK => ?_)
  rw [if_pos (by kernel_rfl)]
  go_simp
  refine (clv_any ⟨pb, 0, none⟩ 2 pcap parts _ hparts (by omega) (fun j u hj => by rw [add0J]; exact HP.out _ hS j u hj) hp1).mono ?_
  rintro e X5 ⟨u5, rfl, ho, hb⟩
  have hS1 : Below w.heap.size w X5 := hS.trans (hb.mono hS.size)
  have ho4 := own_below ho4 hb
  have ho5 := own_base ho hS.size
  refine hK _ _ ⟨hS1, ?_⟩
  clear hK K hS hb ho
  have hS := hS1
  clear hS1
  try simp only [Act.put, List.setIfInBounds_toArray, List.set_cons_zero, List.set_cons_succ]
  obtain ⟨q4, k4, rfl, _, _, _, _⟩ := own_formJ (by omega) ho4
  have HO4 := Lib.hid ho4
  clear ho4
  obtain ⟨q5, k5, rfl, _, _, _, _⟩ := own_formJ (by omega) ho5
  have HO5 := Lib.hid ho5
  clear ho5
  have HS := Lib.hid hS
  have hrw := HR.out _ hS
  refine wpTill_take (i := 18) (v := ?_) rfl (by decide) (by kernel_rfl) (by kernel_rfl) (by kernel_rfl) (fun _ _ _ h => h) (by rfl) ?_ hS ?_
  rotate_left
  · (intro w'; go_simp; try (with_reducible rfl))
  change wpTill _ _ _ _ _ _ _ _ (Act.put _ (some 20) _) _
  try simp only [Act.put, List.setIfInBounds_toArray, List.set_cons_zero, List.set_cons_succ]
  refine wpTill_take (i := 19) (v := ?_) rfl (by decide) (by kernel_rfl) (by kernel_rfl) (by kernel_rfl) (fun _ _ _ h => h) (by rfl) ?_ hS ?_
  rotate_left
  · (intro w'; go_simp; try (with_reducible rfl))
  change wpTill _ _ _ _ _ _ _ _ (Act.put _ (some 21) _) _
  try simp only [Act.put, List.setIfInBounds_toArray, List.set_cons_zero, List.set_cons_succ]
  have ck := hrw.cell (k := 3) rfl
  have cf := hrw.free 3
  refine wpTill_part (by kernel_rfl) ?_
  refine wpOp_step rfl (fun K hK => ?_)
  rw [if_pos (by kernel_rfl)]
  go_simp
  refine hK _ _ ?_
  clear hK K ck cf
  try simp only [Act.put, List.setIfInBounds_toArray, List.set_cons_zero, List.set_cons_succ]
  have hrw := hrw.set 3 (.slice none 0 0)
  refine wpAny_take (i := 21) (v := ?_) rfl (by kernel_rfl) (by kernel_rfl) (by kernel_rfl) (fun _ _ _ h => h) (Or.inl ⟨by rfl, ?_⟩) ?_
  rotate_left
  · (intro w'; go_simp; try (with_reducible rfl))
  change wpAny _ _ _ _ _ _ (Act.put _ (some 22) _) _
  try simp only [Act.put, List.setIfInBounds_toArray, List.set_cons_zero, List.set_cons_succ]
  refine wpAny_take (i := 22) (v := ?_) rfl (by kernel_rfl) (by kernel_rfl) (by kernel_rfl) (fun _ _ _ h => h) (Or.inl ⟨by rfl, ?_⟩) ?_
  rotate_left
  · (intro w'; go_simp; try (with_reducible rfl))
  change wpAny _ _ _ _ _ _ (Act.put _ (some 23) _) _
  try simp only [Act.put, List.setIfInBounds_toArray, List.set_cons_zero, List.set_cons_succ]
  have ck := hrw.cell (k := 4) rfl
  have cf := hrw.free 4
  refine wpAny_ready (rs := [23]) (by kernel_rfl) (by simp) ?_
  refine AllReady.cons rfl (fun K hK => ?_) AllReady.nil
  rw [if_pos (by kernel_rfl)]
  go_simp
  refine hK _ _ ?_
  clear hK K ck cf
  try simp only [Act.put, List.setIfInBounds_toArray, List.set_cons_zero, List.set_cons_succ]
  have hrw := hrw.set 4 (.slice (some ⟨q4, 0, none⟩) 2 k4)
  refine wpAny_take (i := 24) (v := ?_) rfl (by kernel_rfl) (by kernel_rfl) (by kernel_rfl) (fun _ _ _ h => h) (Or.inl ⟨by rfl, ?_⟩) ?_
  rotate_left
  · (intro w'; go_simp; try (with_reducible rfl))
  change wpAny _ _ _ _ _ _ (Act.put _ (some 24) _) _
  try simp only [Act.put, List.setIfInBounds_toArray, List.set_cons_zero, List.set_cons_succ]
  refine wpAny_take (i := 25) (v := ?_) rfl (by kernel_rfl) (by kernel_rfl) (by kernel_rfl) (fun _ _ _ h => h) (Or.inl ⟨by rfl, ?_⟩) ?_
  rotate_left
  · (intro w'; go_simp; try (with_reducible rfl))
  change wpAny _ _ _ _ _ _ (Act.put _ (some 25) _) _
  try simp only [Act.put, List.setIfInBounds_toArray, List.set_cons_zero, List.set_cons_succ]
  have ck := hrw.cell (k := 5) rfl
  have cf := hrw.free 5
  refine wpAny_ready (rs := [26]) (by kernel_rfl) (by simp) ?_
  refine AllReady.cons rfl (fun K hK => ?_) AllReady.nil
  rw [if_pos (by kernel_rfl)]
  go_simp
  refine hK _ _ ?_
  clear hK K ck cf
  try simp only [Act.put, List.setIfInBounds_toArray, List.set_cons_zero, List.set_cons_succ]
  have hrw := hrw.set 5 (.slice (some ⟨q5, 0, none⟩) 2 k5)
  refine wpAny_done (by kernel_rfl) ?_ _
  clear hS
  have HRW := Lib.hid hrw
  clear hrw
  go_wp2_with fail
  go_end0
  exact ⟨rfl, _, _, HRW.out, own_only HO4.out ((((Only.refl (fun j => j = g) X5).setCell (p := ⟨g, 3, none⟩) (.inl rfl) (.slice none 0 0)).setCell (p := ⟨g, 4, none⟩) (.inl rfl) (.slice (some ⟨q4, 0, none⟩) 2 k4)).setCell (p := ⟨g, 5, none⟩) (.inl rfl) (.slice (some ⟨q5, 0, none⟩) 2 k5)) (fun j hj e => by have := (HO4.out.lt j hj).1; have e2 : j = g := e; omega), own_only HO5.out ((((Only.refl (fun j => j = g) X5).setCell (p := ⟨g, 3, none⟩) (.inl rfl) (.slice none 0 0)).setCell (p := ⟨g, 4, none⟩) (.inl rfl) (.slice (some ⟨q4, 0, none⟩) 2 k4)).setCell (p := ⟨g, 5, none⟩) (.inl rfl) (.slice (some ⟨q5, 0, none⟩) 2 k5)) (fun j hj e => by have := (HO5.out.lt j hj).1; have e2 : j = g := e; omega), (((((Only.of_below HS.out (fun j => j = g))).setCell (p := ⟨g, 3, none⟩) (.inl rfl) (.slice none 0 0)).setCell (p := ⟨g, 4, none⟩) (.inl rfl) (.slice (some ⟨q4, 0, none⟩) 2 k4)).setCell (p := ⟨g, 5, none⟩) (.inl rfl) (.slice (some ⟨q5, 0, none⟩) 2 k5))⟩

set_option maxHeartbeats 6400000 in
theorem own_leafV2 (g o : Nat) (w : World) (l : List Value) (T : TypeId) (h : Row w g T l) (h3 : l[o + 3]? = some (.slice none 0 0)) (h4 : l[o + 4]? = some (.slice none 0 0)) (h5 : l[o + 5]? = some (.slice none 0 0)) :
    Calls Tryz.prog 67 #[.pointer (some ⟨g, o, none⟩)] w fun e w' => e = .returned (.tuple #[]) ∧ Below w.heap.size w w' := by
  have HR := Lib.hid (fun (w' : World) (hb : Below w.heap.size w w') => h.belowAll hb)
  clear h
  have hS0 : (fun w' : World => Below w.heap.size w w') w.drew := (Below.refl _ _).drew
  go_enter Tryz.func67, Tryz.ntmps67
  go_wp2_with fail
  refine wp_region_till 20 (fun w' : World => Below w.heap.size w w') (by kernel_rfl) ?_
  change wpTill _ _ _ _ _ _ _ _ _ (World.drew _)
  have hS := hS0
  clear hS0
  refine wpTill_take (i := 0) (v := ?_) rfl (by decide) (by kernel_rfl) (by kernel_rfl) (by kernel_rfl) (fun _ _ _ h => h) (by rfl) ?_ hS ?_
  rotate_left
  · (intro w'; go_simp; try (with_reducible rfl))
  change wpTill _ _ _ _ _ _ _ _ (Act.put _ (some 2) _) _
  try simp only [Act.put, List.setIfInBounds_toArray, List.set_cons_zero, List.set_cons_succ]
  refine wpTill_take (i := 1) (v := ?_) rfl (by decide) (by kernel_rfl) (by kernel_rfl) (by kernel_rfl) (fun _ _ _ h => h) (by rfl) ?_ hS ?_
  rotate_left
  · (intro w'; go_simp; try (with_reducible rfl))
  change wpTill _ _ _ _ _ _ _ _ (Act.put _ (some 3) _) _
  try simp only [Act.put, List.setIfInBounds_toArray, List.set_cons_zero, List.set_cons_succ]
  refine wpTill_take (i := 2) (v := ?_) rfl (by decide) (by kernel_rfl) (by kernel_rfl) (by kernel_rfl) (fun _ _ _ h => h) (by rfl) ?_ hS ?_
  rotate_left
  · (intro w'; go_simp; try (with_reducible rfl))
  change wpTill _ _ _ _ _ _ _ _ (Act.put _ (some 4) _) _
  try simp only [Act.put, List.setIfInBounds_toArray, List.set_cons_zero, List.set_cons_succ]
  refine wpTill_take (i := 3) (v := ?_) rfl (by decide) (by kernel_rfl) (by kernel_rfl) (by kernel_rfl) (fun _ _ _ h => h) (by rfl) ?_ hS ?_
  rotate_left
  · (intro w'; go_simp; try (with_reducible rfl))
  change wpTill _ _ _ _ _ _ _ _ (Act.put _ (some 5) _) _
  try simp only [Act.put, List.setIfInBounds_toArray, List.set_cons_zero, List.set_cons_succ]
  refine wpTill_take (i := 4) (v := ?_) rfl (by decide) (by kernel_rfl) (by kernel_rfl) (by kernel_rfl) (fun _ _ _ h => h) (by rfl) ?_ hS ?_
  rotate_left
  · (intro w'; go_simp; try (with_reducible rfl))
  change wpTill _ _ _ _ _ _ _ _ (Act.put _ (some 6) _) _
  try simp only [Act.put, List.setIfInBounds_toArray, List.set_cons_zero, List.set_cons_succ]
  refine wpTill_take (i := 5) (v := ?_) rfl (by decide) (by kernel_rfl) (by kernel_rfl) (by kernel_rfl) (fun _ _ _ h => h) (by rfl) ?_ hS ?_
  rotate_left
  · (intro w'; go_simp; try (with_reducible rfl))
  change wpTill _ _ _ _ _ _ _ _ (Act.put _ (some 7) _) _
  try simp only [Act.put, List.setIfInBounds_toArray, List.set_cons_zero, List.set_cons_succ]
  refine wpTill_load (i := 6) (v := .slice none 0 0) rfl (by decide) (by kernel_rfl) (by kernel_rfl) (by kernel_rfl) (fun _ _ _ h => h) (by kernel_rfl) (by rfl) (fun w' hSw => ex_ldO 24 (.tmp 7) rfl _ _ rfl (ldp_strs ((HR.out w' hSw).cell h3))) hS ?_
  change wpTill _ _ _ _ _ _ _ _ (Act.put _ (some 8) _) _
  try simp only [Act.put, List.setIfInBounds_toArray, List.set_cons_zero, List.set_cons_succ]
  refine wpTill_take (i := 8) (v := ?_) rfl (by decide) (by kernel_rfl) (by kernel_rfl) (by kernel_rfl) (fun _ _ _ h => h) (by rfl) ?_ hS ?_
  rotate_left
  · (intro w'; go_simp; try (with_reducible rfl))
  change wpTill _ _ _ _ _ _ _ _ (Act.put _ (some 10) _) _
  try simp only [Act.put, List.setIfInBounds_toArray, List.set_cons_zero, List.set_cons_succ]
  refine wpTill_take (i := 9) (v := ?_) rfl (by decide) (by kernel_rfl) (by kernel_rfl) (by kernel_rfl) (fun _ _ _ h => h) (by rfl) ?_ hS ?_
  rotate_left
  · (intro w'; go_simp; try (with_reducible rfl))
  change wpTill _ _ _ _ _ _ _ _ (Act.put _ (some 11) _) _
  try simp only [Act.put, List.setIfInBounds_toArray, List.set_cons_zero, List.set_cons_succ]
  refine wpTill_take (i := 10) (v := ?_) rfl (by decide) (by kernel_rfl) (by kernel_rfl) (by kernel_rfl) (fun _ _ _ h => h) (by rfl) ?_ hS ?_
  rotate_left
  · (intro w'; go_simp; try (with_reducible rfl))
  change wpTill _ _ _ _ _ _ _ _ (Act.put _ (some 12) _) _
  try simp only [Act.put, List.setIfInBounds_toArray, List.set_cons_zero, List.set_cons_succ]
  refine wpTill_load (i := 11) (v := .slice none 0 0) rfl (by decide) (by kernel_rfl) (by kernel_rfl) (by kernel_rfl) (fun _ _ _ h => h) (by kernel_rfl) (by rfl) (fun w' hSw => ex_ldO 25 (.tmp 12) rfl _ _ rfl (ld_u64s ((HR.out w' hSw).cell h4))) hS ?_
  change wpTill _ _ _ _ _ _ _ _ (Act.put _ (some 13) _) _
  try simp only [Act.put, List.setIfInBounds_toArray, List.set_cons_zero, List.set_cons_succ]
  refine wpTill_take (i := 13) (v := ?_) rfl (by decide) (by kernel_rfl) (by kernel_rfl) (by kernel_rfl) (fun _ _ _ h => h) (by rfl) ?_ hS ?_
  rotate_left
  · (intro w'; go_simp; try (with_reducible rfl))
  change wpTill _ _ _ _ _ _ _ _ (Act.put _ (some 15) _) _
  try simp only [Act.put, List.setIfInBounds_toArray, List.set_cons_zero, List.set_cons_succ]
  refine wpTill_take (i := 14) (v := ?_) rfl (by decide) (by kernel_rfl) (by kernel_rfl) (by kernel_rfl) (fun _ _ _ h => h) (by rfl) ?_ hS ?_
  rotate_left
  · (intro w'; go_simp; try (with_reducible rfl))
  change wpTill _ _ _ _ _ _ _ _ (Act.put _ (some 16) _) _
  try simp only [Act.put, List.setIfInBounds_toArray, List.set_cons_zero, List.set_cons_succ]
  refine wpTill_take (i := 15) (v := ?_) rfl (by decide) (by kernel_rfl) (by kernel_rfl) (by kernel_rfl) (fun _ _ _ h => h) (by rfl) ?_ hS ?_
  rotate_left
  · (intro w'; go_simp; try (with_reducible rfl))
  change wpTill _ _ _ _ _ _ _ _ (Act.put _ (some 17) _) _
  try simp only [Act.put, List.setIfInBounds_toArray, List.set_cons_zero, List.set_cons_succ]
  refine wpTill_load (i := 16) (v := .slice none 0 0) rfl (by decide) (by kernel_rfl) (by kernel_rfl) (by kernel_rfl) (fun _ _ _ h => h) (by kernel_rfl) (by rfl) (fun w' hSw => ex_ldO 26 (.tmp 17) rfl _ _ rfl (ldp_vals ((HR.out w' hSw).cell h5))) hS ?_
  change wpTill _ _ _ _ _ _ _ _ (Act.put _ (some 18) _) _
  try simp only [Act.put, List.setIfInBounds_toArray, List.set_cons_zero, List.set_cons_succ]
  refine wpTill_one (i := 7) (by decide) (by kernel_rfl) ?_
  refine wpOp_step rfl (fun K hK => ?_)
  rw [if_pos (by kernel_rfl)]
  go_simp
  refine (cl_str _).mono ?_
  rintro e X3 ⟨rfl, hb⟩
  have hS1 : Below w.heap.size w X3 := hS.trans (hb.mono hS.size)
  refine hK _ _ ⟨hS1, ?_⟩
  clear hK K hS hb
  have hS := hS1
  clear hS1
  try simp only [Act.put, List.setIfInBounds_toArray, List.set_cons_zero, List.set_cons_succ]
  refine wpTill_one (i := 12) (by decide) (by kernel_rfl) ?_
  refine wpOp_step rfl (fun K hK => ?_)
  rw [if_pos (by kernel_rfl)]
  go_simp
  refine (cl_u64 _).mono ?_
  rintro e X4 ⟨rfl, hb⟩
  have hS1 : Below w.heap.size w X4 := hS.trans (hb.mono hS.size)
  refine hK _ _ ⟨hS1, ?_⟩
  clear hK K hS hb
  have hS := hS1
  clear hS1
  try simp only [Act.put, List.setIfInBounds_toArray, List.set_cons_zero, List.set_cons_succ]
  refine wpTill_one (i := 17) (by decide) (by kernel_rfl) ?_
  refine wpOp_step rfl (fun K hK => ?_)
  rw [if_pos (by kernel_rfl)]
  go_simp
  refine (cl_val _).mono ?_
  rintro e X5 ⟨rfl, hb⟩
  have hS1 : Below w.heap.size w X5 := hS.trans (hb.mono hS.size)
  refine hK _ _ ⟨hS1, ?_⟩
  clear hK K hS hb
  have hS := hS1
  clear hS1
  try simp only [Act.put, List.setIfInBounds_toArray, List.set_cons_zero, List.set_cons_succ]
  have HS := Lib.hid hS
  have hrw := HR.out _ hS
  refine wpTill_take (i := 18) (v := ?_) rfl (by decide) (by kernel_rfl) (by kernel_rfl) (by kernel_rfl) (fun _ _ _ h => h) (by rfl) ?_ hS ?_
  rotate_left
  · (intro w'; go_simp; try (with_reducible rfl))
  change wpTill _ _ _ _ _ _ _ _ (Act.put _ (some 20) _) _
  try simp only [Act.put, List.setIfInBounds_toArray, List.set_cons_zero, List.set_cons_succ]
  refine wpTill_take (i := 19) (v := ?_) rfl (by decide) (by kernel_rfl) (by kernel_rfl) (by kernel_rfl) (fun _ _ _ h => h) (by rfl) ?_ hS ?_
  rotate_left
  · (intro w'; go_simp; try (with_reducible rfl))
  change wpTill _ _ _ _ _ _ _ _ (Act.put _ (some 21) _) _
  try simp only [Act.put, List.setIfInBounds_toArray, List.set_cons_zero, List.set_cons_succ]
  have ck := hrw.cell h3
  have cf := hrw.free (o + 3)
  refine wpTill_part (by kernel_rfl) ?_
  refine wpOp_step rfl (fun K hK => ?_)
  rw [if_pos (by kernel_rfl)]
  go_simp
  refine hK _ _ ?_
  clear hK K ck cf
  try simp only [Act.put, List.setIfInBounds_toArray, List.set_cons_zero, List.set_cons_succ]
  have hb0 := below_same hrw h3
  have hrw := hrw.belowAll hb0
  refine wpAny_take (i := 21) (v := ?_) rfl (by kernel_rfl) (by kernel_rfl) (by kernel_rfl) (fun _ _ _ h => h) (Or.inl ⟨by rfl, ?_⟩) ?_
  rotate_left
  · (intro w'; go_simp; try (with_reducible rfl))
  change wpAny _ _ _ _ _ _ (Act.put _ (some 22) _) _
  try simp only [Act.put, List.setIfInBounds_toArray, List.set_cons_zero, List.set_cons_succ]
  refine wpAny_take (i := 22) (v := ?_) rfl (by kernel_rfl) (by kernel_rfl) (by kernel_rfl) (fun _ _ _ h => h) (Or.inl ⟨by rfl, ?_⟩) ?_
  rotate_left
  · (intro w'; go_simp; try (with_reducible rfl))
  change wpAny _ _ _ _ _ _ (Act.put _ (some 23) _) _
  try simp only [Act.put, List.setIfInBounds_toArray, List.set_cons_zero, List.set_cons_succ]
  have ck := hrw.cell h4
  have cf := hrw.free (o + 4)
  refine wpAny_ready (rs := [23]) (by kernel_rfl) (by simp) ?_
  refine AllReady.cons rfl (fun K hK => ?_) AllReady.nil
  rw [if_pos (by kernel_rfl)]
  go_simp
  refine hK _ _ ?_
  clear hK K ck cf
  try simp only [Act.put, List.setIfInBounds_toArray, List.set_cons_zero, List.set_cons_succ]
  have hb1 := below_same hrw h4
  have hrw := hrw.belowAll hb1
  refine wpAny_take (i := 24) (v := ?_) rfl (by kernel_rfl) (by kernel_rfl) (by kernel_rfl) (fun _ _ _ h => h) (Or.inl ⟨by rfl, ?_⟩) ?_
  rotate_left
  · (intro w'; go_simp; try (with_reducible rfl))
  change wpAny _ _ _ _ _ _ (Act.put _ (some 24) _) _
  try simp only [Act.put, List.setIfInBounds_toArray, List.set_cons_zero, List.set_cons_succ]
  refine wpAny_take (i := 25) (v := ?_) rfl (by kernel_rfl) (by kernel_rfl) (by kernel_rfl) (fun _ _ _ h => h) (Or.inl ⟨by rfl, ?_⟩) ?_
  rotate_left
  · (intro w'; go_simp; try (with_reducible rfl))
  change wpAny _ _ _ _ _ _ (Act.put _ (some 25) _) _
  try simp only [Act.put, List.setIfInBounds_toArray, List.set_cons_zero, List.set_cons_succ]
  have ck := hrw.cell h5
  have cf := hrw.free (o + 5)
  refine wpAny_ready (rs := [26]) (by kernel_rfl) (by simp) ?_
  refine AllReady.cons rfl (fun K hK => ?_) AllReady.nil
  rw [if_pos (by kernel_rfl)]
  go_simp
  refine hK _ _ ?_
  clear hK K ck cf
  try simp only [Act.put, List.setIfInBounds_toArray, List.set_cons_zero, List.set_cons_succ]
  have hb2 := below_same hrw h5
  have hrw := hrw.belowAll hb2
  refine wpAny_done (by kernel_rfl) ?_ _
  clear hS
  have HBF := Lib.hid (below_more (below_more (below_more (HS.out) hb0) hb1) hb2)
  clear hrw hb0 hb1 hb2
  go_wp2_with fail
  go_end0
  exact ⟨rfl, HBF.out⟩

set_option maxHeartbeats 6400000 in
theorem own_S1 (g : Nat) (w : World) (parts : List Value) (hparts : parts.length = 3) (pb pcap : Nat) (hp : Cells w pb parts) (hp1 : ∀ u ∈ parts, u.oneCell' = true) (h : Row w g 48 [.int .i64 6, .slice none 0 0, .slice (some ⟨pb, 0, none⟩) 1 pcap]) :
    Calls Tryz.prog 152 #[.pointer (some ⟨g, 0, none⟩)] w fun e w' => e = .returned (.tuple #[]) ∧ ∃ v2, Row w' g 48 [.int .i64 6, .slice none 0 0, v2] ∧ w'.ownsRow w.heap.size 48 3 v2 1 parts ∧ Only (fun j => j = g) w w' := by
  have HR := Lib.hid (fun (w' : World) (hb : Below w.heap.size w w') => h.belowAll hb)
  have HP := Lib.hid (fun (w' : World) (hb : Below w.heap.size w w') => hp.below hb)
  have hgl := h.lt
  clear h hp
  have hS0 : (fun w' : World => Below w.heap.size w w') w.drew := (Below.refl _ _).drew
  go_enter Tryz.func152, Tryz.ntmps152
  go_wp2_with fail
  refine wp_region_till 14 (fun w' : World => Below w.heap.size w w') (by kernel_rfl) ?_
  change wpTill _ _ _ _ _ _ _ _ _ (World.drew _)
  have hS := hS0
  clear hS0
  refine wpTill_take (i := 0) (v := ?_) rfl (by decide) (by kernel_rfl) (by kernel_rfl) (by kernel_rfl) (fun _ _ _ h => h) (by rfl) ?_ hS ?_
  rotate_left
  · (intro w'; go_simp; try (with_reducible rfl))
  change wpTill _ _ _ _ _ _ _ _ (Act.put _ (some 2) _) _
  try simp only [Act.put, List.setIfInBounds_toArray, List.set_cons_zero, List.set_cons_succ]
  refine wpTill_take (i := 1) (v := ?_) rfl (by decide) (by kernel_rfl) (by kernel_rfl) (by kernel_rfl) (fun _ _ _ h => h) (by rfl) ?_ hS ?_
  rotate_left
  · (intro w'; go_simp; try (with_reducible rfl))
  change wpTill _ _ _ _ _ _ _ _ (Act.put _ (some 3) _) _
  try simp only [Act.put, List.setIfInBounds_toArray, List.set_cons_zero, List.set_cons_succ]
  refine wpTill_take (i := 2) (v := ?_) rfl (by decide) (by kernel_rfl) (by kernel_rfl) (by kernel_rfl) (fun _ _ _ h => h) (by rfl) ?_ hS ?_
  rotate_left
  · (intro w'; go_simp; try (with_reducible rfl))
  change wpTill _ _ _ _ _ _ _ _ (Act.put _ (some 4) _) _
  try simp only [Act.put, List.setIfInBounds_toArray, List.set_cons_zero, List.set_cons_succ]
  refine wpTill_take (i := 3) (v := ?_) rfl (by decide) (by kernel_rfl) (by kernel_rfl) (by kernel_rfl) (fun _ _ _ h => h) (by rfl) ?_ hS ?_
  rotate_left
  · (intro w'; go_simp; try (with_reducible rfl))
  change wpTill _ _ _ _ _ _ _ _ (Act.put _ (some 5) _) _
  try simp only [Act.put, List.setIfInBounds_toArray, List.set_cons_zero, List.set_cons_succ]
  refine wpTill_take (i := 4) (v := ?_) rfl (by decide) (by kernel_rfl) (by kernel_rfl) (by kernel_rfl) (fun _ _ _ h => h) (by rfl) ?_ hS ?_
  rotate_left
  · (intro w'; go_simp; try (with_reducible rfl))
  change wpTill _ _ _ _ _ _ _ _ (Act.put _ (some 6) _) _
  try simp only [Act.put, List.setIfInBounds_toArray, List.set_cons_zero, List.set_cons_succ]
  refine wpTill_load (i := 5) (v := .slice none 0 0) rfl (by decide) (by kernel_rfl) (by kernel_rfl) (by kernel_rfl) (fun _ _ _ h => h) (by kernel_rfl) (by rfl) (fun w' hSw => ex_ldO 24 (.tmp 6) rfl _ _ rfl (ldp_strs ((HR.out w' hSw).cell (k := 1) rfl))) hS ?_
  change wpTill _ _ _ _ _ _ _ _ (Act.put _ (some 7) _) _
  try simp only [Act.put, List.setIfInBounds_toArray, List.set_cons_zero, List.set_cons_succ]
  refine wpTill_take (i := 7) (v := ?_) rfl (by decide) (by kernel_rfl) (by kernel_rfl) (by kernel_rfl) (fun _ _ _ h => h) (by rfl) ?_ hS ?_
  rotate_left
  · (intro w'; go_simp; try (with_reducible rfl))
  change wpTill _ _ _ _ _ _ _ _ (Act.put _ (some 9) _) _
  try simp only [Act.put, List.setIfInBounds_toArray, List.set_cons_zero, List.set_cons_succ]
  refine wpTill_take (i := 8) (v := ?_) rfl (by decide) (by kernel_rfl) (by kernel_rfl) (by kernel_rfl) (fun _ _ _ h => h) (by rfl) ?_ hS ?_
  rotate_left
  · (intro w'; go_simp; try (with_reducible rfl))
  change wpTill _ _ _ _ _ _ _ _ (Act.put _ (some 10) _) _
  try simp only [Act.put, List.setIfInBounds_toArray, List.set_cons_zero, List.set_cons_succ]
  refine wpTill_take (i := 9) (v := ?_) rfl (by decide) (by kernel_rfl) (by kernel_rfl) (by kernel_rfl) (fun _ _ _ h => h) (by rfl) ?_ hS ?_
  rotate_left
  · (intro w'; go_simp; try (with_reducible rfl))
  change wpTill _ _ _ _ _ _ _ _ (Act.put _ (some 11) _) _
  try simp only [Act.put, List.setIfInBounds_toArray, List.set_cons_zero, List.set_cons_succ]
  refine wpTill_load (i := 10) (v := .slice (some ⟨pb, 0, none⟩) 1 pcap) rfl (by decide) (by kernel_rfl) (by kernel_rfl) (by kernel_rfl) (fun _ _ _ h => h) (by kernel_rfl) (by rfl) (fun w' hSw => ex_ldO 46 (.tmp 11) rfl _ _ rfl (ldp_schs ((HR.out w' hSw).cell (k := 2) rfl))) hS ?_
  change wpTill _ _ _ _ _ _ _ _ (Act.put _ (some 12) _) _
  try simp only [Act.put, List.setIfInBounds_toArray, List.set_cons_zero, List.set_cons_succ]
  refine wpTill_one (i := 6) (by decide) (by kernel_rfl) ?_
  refine wpOp_step rfl (fun K hK => ?_)
  rw [if_pos (by kernel_rfl)]
  go_simp
  refine (cl_str _).mono ?_
  rintro e X1 ⟨rfl, hb⟩
  have hS1 : Below w.heap.size w X1 := hS.trans (hb.mono hS.size)
  refine hK _ _ ⟨hS1, ?_⟩
  clear hK K hS hb
  have hS := hS1
  clear hS1
  try simp only [Act.put, List.setIfInBounds_toArray, List.set_cons_zero, List.set_cons_succ]
  refine wpTill_one (i := 11) (by decide) (by kernel_rfl) ?_
  refine wpOp_step rfl (fun K hK => ?_)
  rw [if_pos (by kernel_rfl)]
  go_simp
  refine (cls_any ⟨pb, 0, none⟩ 1 pcap parts _ hparts (by omega) (fun j u hj => by rw [add0J]; exact HP.out _ hS j u hj) hp1).mono ?_
  rintro e X2 ⟨u2, rfl, ho, hb⟩
  have hS1 : Below w.heap.size w X2 := hS.trans (hb.mono hS.size)
  have ho2 := own_base ho hS.size
  refine hK _ _ ⟨hS1, ?_⟩
  clear hK K hS hb ho
  have hS := hS1
  clear hS1
  try simp only [Act.put, List.setIfInBounds_toArray, List.set_cons_zero, List.set_cons_succ]
  obtain ⟨q2, k2, rfl, _, _, _, _⟩ := own_formJ (by omega) ho2
  have HO2 := Lib.hid ho2
  clear ho2
  have HS := Lib.hid hS
  have hrw := HR.out _ hS
  refine wpTill_take (i := 12) (v := ?_) rfl (by decide) (by kernel_rfl) (by kernel_rfl) (by kernel_rfl) (fun _ _ _ h => h) (by rfl) ?_ hS ?_
  rotate_left
  · (intro w'; go_simp; try (with_reducible rfl))
  change wpTill _ _ _ _ _ _ _ _ (Act.put _ (some 14) _) _
  try simp only [Act.put, List.setIfInBounds_toArray, List.set_cons_zero, List.set_cons_succ]
  refine wpTill_take (i := 13) (v := ?_) rfl (by decide) (by kernel_rfl) (by kernel_rfl) (by kernel_rfl) (fun _ _ _ h => h) (by rfl) ?_ hS ?_
  rotate_left
  · (intro w'; go_simp; try (with_reducible rfl))
  change wpTill _ _ _ _ _ _ _ _ (Act.put _ (some 15) _) _
  try simp only [Act.put, List.setIfInBounds_toArray, List.set_cons_zero, List.set_cons_succ]
  have ck := hrw.cell (k := 1) rfl
  have cf := hrw.free 1
  refine wpTill_part (by kernel_rfl) ?_
  refine wpOp_step rfl (fun K hK => ?_)
  rw [if_pos (by kernel_rfl)]
  go_simp
  refine hK _ _ ?_
  clear hK K ck cf
  try simp only [Act.put, List.setIfInBounds_toArray, List.set_cons_zero, List.set_cons_succ]
  have hrw := hrw.set 1 (.slice none 0 0)
  refine wpAny_take (i := 15) (v := ?_) rfl (by kernel_rfl) (by kernel_rfl) (by kernel_rfl) (fun _ _ _ h => h) (Or.inl ⟨by rfl, ?_⟩) ?_
  rotate_left
  · (intro w'; go_simp; try (with_reducible rfl))
  change wpAny _ _ _ _ _ _ (Act.put _ (some 16) _) _
  try simp only [Act.put, List.setIfInBounds_toArray, List.set_cons_zero, List.set_cons_succ]
  refine wpAny_take (i := 16) (v := ?_) rfl (by kernel_rfl) (by kernel_rfl) (by kernel_rfl) (fun _ _ _ h => h) (Or.inl ⟨by rfl, ?_⟩) ?_
  rotate_left
  · (intro w'; go_simp; try (with_reducible rfl))
  change wpAny _ _ _ _ _ _ (Act.put _ (some 17) _) _
  try simp only [Act.put, List.setIfInBounds_toArray, List.set_cons_zero, List.set_cons_succ]
  have ck := hrw.cell (k := 2) rfl
  have cf := hrw.free 2
  refine wpAny_ready (rs := [17]) (by kernel_rfl) (by simp) ?_
  refine AllReady.cons rfl (fun K hK => ?_) AllReady.nil
  rw [if_pos (by kernel_rfl)]
  go_simp
  refine hK _ _ ?_
  clear hK K ck cf
  try simp only [Act.put, List.setIfInBounds_toArray, List.set_cons_zero, List.set_cons_succ]
  have hrw := hrw.set 2 (.slice (some ⟨q2, 0, none⟩) 1 k2)
  refine wpAny_done (by kernel_rfl) ?_ _
  clear hS
  have HRW := Lib.hid hrw
  clear hrw
  go_wp2_with fail
  go_end0
  exact ⟨rfl, _, HRW.out, own_only HO2.out (((Only.refl (fun j => j = g) X2).setCell (p := ⟨g, 1, none⟩) (.inl rfl) (.slice none 0 0)).setCell (p := ⟨g, 2, none⟩) (.inl rfl) (.slice (some ⟨q2, 0, none⟩) 1 k2)) (fun j hj e => by have := (HO2.out.lt j hj).1; have e2 : j = g := e; omega), ((((Only.of_below HS.out (fun j => j = g))).setCell (p := ⟨g, 1, none⟩) (.inl rfl) (.slice none 0 0)).setCell (p := ⟨g, 2, none⟩) (.inl rfl) (.slice (some ⟨q2, 0, none⟩) 1 k2))⟩

set_option maxHeartbeats 6400000 in
theorem own_leafS1 (g o : Nat) (w : World) (l : List Value) (T : TypeId) (h : Row w g T l) (h1 : l[o + 1]? = some (.slice none 0 0)) (h2 : l[o + 2]? = some (.slice none 0 0)) :
    Calls Tryz.prog 152 #[.pointer (some ⟨g, o, none⟩)] w fun e w' => e = .returned (.tuple #[]) ∧ Below w.heap.size w w' := by
  have HR := Lib.hid (fun (w' : World) (hb : Below w.heap.size w w') => h.belowAll hb)
  clear h
  have hS0 : (fun w' : World => Below w.heap.size w w') w.drew := (Below.refl _ _).drew
  go_enter Tryz.func152, Tryz.ntmps152
  go_wp2_with fail
  refine wp_region_till 14 (fun w' : World => Below w.heap.size w w') (by kernel_rfl) ?_
  change wpTill _ _ _ _ _ _ _ _ _ (World.drew _)
  have hS := hS0
  clear hS0
  refine wpTill_take (i := 0) (v := ?_) rfl (by decide) (by kernel_rfl) (by kernel_rfl) (by kernel_rfl) (fun _ _ _ h => h) (by rfl) ?_ hS ?_
  rotate_left
  · (intro w'; go_simp; try (with_reducible rfl))
  change wpTill _ _ _ _ _ _ _ _ (Act.put _ (some 2) _) _
  try simp only [Act.put, List.setIfInBounds_toArray, List.set_cons_zero, List.set_cons_succ]
  refine wpTill_take (i := 1) (v := ?_) rfl (by decide) (by kernel_rfl) (by kernel_rfl) (by kernel_rfl) (fun _ _ _ h => h) (by rfl) ?_ hS ?_
  rotate_left
  · (intro w'; go_simp; try (with_reducible rfl))
  change wpTill _ _ _ _ _ _ _ _ (Act.put _ (some 3) _) _
  try simp only [Act.put, List.setIfInBounds_toArray, List.set_cons_zero, List.set_cons_succ]
  refine wpTill_take (i := 2) (v := ?_) rfl (by decide) (by kernel_rfl) (by kernel_rfl) (by kernel_rfl) (fun _ _ _ h => h) (by rfl) ?_ hS ?_
  rotate_left
  · (intro w'; go_simp; try (with_reducible rfl))
  change wpTill _ _ _ _ _ _ _ _ (Act.put _ (some 4) _) _
  try simp only [Act.put, List.setIfInBounds_toArray, List.set_cons_zero, List.set_cons_succ]
  refine wpTill_take (i := 3) (v := ?_) rfl (by decide) (by kernel_rfl) (by kernel_rfl) (by kernel_rfl) (fun _ _ _ h => h) (by rfl) ?_ hS ?_
  rotate_left
  · (intro w'; go_simp; try (with_reducible rfl))
  change wpTill _ _ _ _ _ _ _ _ (Act.put _ (some 5) _) _
  try simp only [Act.put, List.setIfInBounds_toArray, List.set_cons_zero, List.set_cons_succ]
  refine wpTill_take (i := 4) (v := ?_) rfl (by decide) (by kernel_rfl) (by kernel_rfl) (by kernel_rfl) (fun _ _ _ h => h) (by rfl) ?_ hS ?_
  rotate_left
  · (intro w'; go_simp; try (with_reducible rfl))
  change wpTill _ _ _ _ _ _ _ _ (Act.put _ (some 6) _) _
  try simp only [Act.put, List.setIfInBounds_toArray, List.set_cons_zero, List.set_cons_succ]
  refine wpTill_load (i := 5) (v := .slice none 0 0) rfl (by decide) (by kernel_rfl) (by kernel_rfl) (by kernel_rfl) (fun _ _ _ h => h) (by kernel_rfl) (by rfl) (fun w' hSw => ex_ldO 24 (.tmp 6) rfl _ _ rfl (ldp_strs ((HR.out w' hSw).cell h1))) hS ?_
  change wpTill _ _ _ _ _ _ _ _ (Act.put _ (some 7) _) _
  try simp only [Act.put, List.setIfInBounds_toArray, List.set_cons_zero, List.set_cons_succ]
  refine wpTill_take (i := 7) (v := ?_) rfl (by decide) (by kernel_rfl) (by kernel_rfl) (by kernel_rfl) (fun _ _ _ h => h) (by rfl) ?_ hS ?_
  rotate_left
  · (intro w'; go_simp; try (with_reducible rfl))
  change wpTill _ _ _ _ _ _ _ _ (Act.put _ (some 9) _) _
  try simp only [Act.put, List.setIfInBounds_toArray, List.set_cons_zero, List.set_cons_succ]
  refine wpTill_take (i := 8) (v := ?_) rfl (by decide) (by kernel_rfl) (by kernel_rfl) (by kernel_rfl) (fun _ _ _ h => h) (by rfl) ?_ hS ?_
  rotate_left
  · (intro w'; go_simp; try (with_reducible rfl))
  change wpTill _ _ _ _ _ _ _ _ (Act.put _ (some 10) _) _
  try simp only [Act.put, List.setIfInBounds_toArray, List.set_cons_zero, List.set_cons_succ]
  refine wpTill_take (i := 9) (v := ?_) rfl (by decide) (by kernel_rfl) (by kernel_rfl) (by kernel_rfl) (fun _ _ _ h => h) (by rfl) ?_ hS ?_
  rotate_left
  · (intro w'; go_simp; try (with_reducible rfl))
  change wpTill _ _ _ _ _ _ _ _ (Act.put _ (some 11) _) _
  try simp only [Act.put, List.setIfInBounds_toArray, List.set_cons_zero, List.set_cons_succ]
  refine wpTill_load (i := 10) (v := .slice none 0 0) rfl (by decide) (by kernel_rfl) (by kernel_rfl) (by kernel_rfl) (fun _ _ _ h => h) (by kernel_rfl) (by rfl) (fun w' hSw => ex_ldO 46 (.tmp 11) rfl _ _ rfl (ldp_schs ((HR.out w' hSw).cell h2))) hS ?_
  change wpTill _ _ _ _ _ _ _ _ (Act.put _ (some 12) _) _
  try simp only [Act.put, List.setIfInBounds_toArray, List.set_cons_zero, List.set_cons_succ]
  refine wpTill_one (i := 6) (by decide) (by kernel_rfl) ?_
  refine wpOp_step rfl (fun K hK => ?_)
  rw [if_pos (by kernel_rfl)]
  go_simp
  refine (cl_str _).mono ?_
  rintro e X1 ⟨rfl, hb⟩
  have hS1 : Below w.heap.size w X1 := hS.trans (hb.mono hS.size)
  refine hK _ _ ⟨hS1, ?_⟩
  clear hK K hS hb
  have hS := hS1
  clear hS1
  try simp only [Act.put, List.setIfInBounds_toArray, List.set_cons_zero, List.set_cons_succ]
  refine wpTill_one (i := 11) (by decide) (by kernel_rfl) ?_
  refine wpOp_step rfl (fun K hK => ?_)
  rw [if_pos (by kernel_rfl)]
  go_simp
  refine (cl_sch _).mono ?_
  rintro e X2 ⟨rfl, hb⟩
  have hS1 : Below w.heap.size w X2 := hS.trans (hb.mono hS.size)
  refine hK _ _ ⟨hS1, ?_⟩
  clear hK K hS hb
  have hS := hS1
  clear hS1
  try simp only [Act.put, List.setIfInBounds_toArray, List.set_cons_zero, List.set_cons_succ]
  have HS := Lib.hid hS
  have hrw := HR.out _ hS
  refine wpTill_take (i := 12) (v := ?_) rfl (by decide) (by kernel_rfl) (by kernel_rfl) (by kernel_rfl) (fun _ _ _ h => h) (by rfl) ?_ hS ?_
  rotate_left
  · (intro w'; go_simp; try (with_reducible rfl))
  change wpTill _ _ _ _ _ _ _ _ (Act.put _ (some 14) _) _
  try simp only [Act.put, List.setIfInBounds_toArray, List.set_cons_zero, List.set_cons_succ]
  refine wpTill_take (i := 13) (v := ?_) rfl (by decide) (by kernel_rfl) (by kernel_rfl) (by kernel_rfl) (fun _ _ _ h => h) (by rfl) ?_ hS ?_
  rotate_left
  · (intro w'; go_simp; try (with_reducible rfl))
  change wpTill _ _ _ _ _ _ _ _ (Act.put _ (some 15) _) _
  try simp only [Act.put, List.setIfInBounds_toArray, List.set_cons_zero, List.set_cons_succ]
  have ck := hrw.cell h1
  have cf := hrw.free (o + 1)
  refine wpTill_part (by kernel_rfl) ?_
  refine wpOp_step rfl (fun K hK => ?_)
  rw [if_pos (by kernel_rfl)]
  go_simp
  refine hK _ _ ?_
  clear hK K ck cf
  try simp only [Act.put, List.setIfInBounds_toArray, List.set_cons_zero, List.set_cons_succ]
  have hb0 := below_same hrw h1
  have hrw := hrw.belowAll hb0
  refine wpAny_take (i := 15) (v := ?_) rfl (by kernel_rfl) (by kernel_rfl) (by kernel_rfl) (fun _ _ _ h => h) (Or.inl ⟨by rfl, ?_⟩) ?_
  rotate_left
  · (intro w'; go_simp; try (with_reducible rfl))
  change wpAny _ _ _ _ _ _ (Act.put _ (some 16) _) _
  try simp only [Act.put, List.setIfInBounds_toArray, List.set_cons_zero, List.set_cons_succ]
  refine wpAny_take (i := 16) (v := ?_) rfl (by kernel_rfl) (by kernel_rfl) (by kernel_rfl) (fun _ _ _ h => h) (Or.inl ⟨by rfl, ?_⟩) ?_
  rotate_left
  · (intro w'; go_simp; try (with_reducible rfl))
  change wpAny _ _ _ _ _ _ (Act.put _ (some 17) _) _
  try simp only [Act.put, List.setIfInBounds_toArray, List.set_cons_zero, List.set_cons_succ]
  have ck := hrw.cell h2
  have cf := hrw.free (o + 2)
  refine wpAny_ready (rs := [17]) (by kernel_rfl) (by simp) ?_
  refine AllReady.cons rfl (fun K hK => ?_) AllReady.nil
  rw [if_pos (by kernel_rfl)]
  go_simp
  refine hK _ _ ?_
  clear hK K ck cf
  try simp only [Act.put, List.setIfInBounds_toArray, List.set_cons_zero, List.set_cons_succ]
  have hb1 := below_same hrw h2
  have hrw := hrw.belowAll hb1
  refine wpAny_done (by kernel_rfl) ?_ _
  clear hS
  have HBF := Lib.hid (below_more (below_more (HS.out) hb0) hb1)
  clear hrw hb0 hb1
  go_wp2_with fail
  go_end0
  exact ⟨rfl, HBF.out⟩
end

end Go.Proofs.YtmiadkhfjkaidaaGreatDoor
