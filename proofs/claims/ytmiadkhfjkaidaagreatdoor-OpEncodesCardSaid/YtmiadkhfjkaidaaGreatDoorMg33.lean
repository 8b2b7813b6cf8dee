/- The document's Same of two operations; whether an operation is great. What op.Encode answers for any operation. Two slices of bytes are held against each other byte by byte: the call answers whether they are the same, and changes nothing; no condition but that they are read as bytes. The walk of OpEncodes. -/
import Derived.Test.YtmiadkhfjkaidaaGreatDoorMg27
import Derived.Test.YtmiadkhfjkaidaaGreatDoorMg15
import Derived.Test.YtmiadkhfjkaidaaGreatDoorMg26
import Derived.Test.YtmiadkhfjkaidaaGreatDoorMg10
import Derived.Test.YtmiadkhfjkaidaaGreatDoorMg1
import Derived.Test.YtmiadkhfjkaidaaGreatDoorRows
import Derived.Deep.QuietTactic
import Derived.BigQuiet
import Derived.Test.YtmiadkhfjkaidaaGreatDoorMg32
import Derived.Test.YtmiadkhfjkaidaaGreatDoorMg31
namespace Go.Proofs.YtmiadkhfjkaidaaGreatDoor
section
set_option maxRecDepth 100000
set_option linter.unusedSimpArgs false
set_option linter.unusedVariables false
open Go.RowKit

theorem eqP_reflO (l : List Stp) : eqP l l = true := eqP_yes rfl fun j _ => by unfold eqSt; rw [eqS_reflO]; simp
set_option maxHeartbeats 3200000 in
theorem osame_ref (k : Int) (id af : Int) (n : Nat) (l : List Stp) (p : Option Addr) (c : Nat) (vk vn : Int) (vs : ByteArray) (va : Option Addr) (vla vca : Nat) (vb : Option Addr) (vlb vcb : Nat) (vc : Option Addr) (vlc vcc : Nat) (v : Vt)
    (q : Option Addr) (d : Nat) (uk un : Int) (us : ByteArray) (ua : Option Addr) (ula uca : Nat) (ub : Option Addr) (ulb ucb : Nat) (uc : Option Addr) (ulc ucc : Nat) (u : Vt) (hn : n ≤ 9223372036854775807) (w : World) (hS : Sts w p n l) (hT : Sts w q n l) (hV : VAt w v (vC vk vn vs va vla vca vb vlb vcb vc vlc vcc)) (hU : VAt w u (vC uk un us ua ula uca ub ulb ucb uc ulc ucc)) (hs : sameV v u = true) :
    Calls Tryz.prog 12 #[.agg (oC k p n c id af vk vn vs va vla vca vb vlb vcb vc vlc vcc).toArray, .agg (oC k q n d id af uk un us ua ula uca ub ulb ucb uc ulc ucc).toArray] w fun e w' => e = .returned (.bool true) ∧ Below w.heap.size w w' := by
  have hb := below2O w (.cells (oC k p n c id af vk vn vs va vla vca vb vlb vcb vc vlc vcc).toArray 30) (.cells (oC k q n d id af uk un us ua ula uca ub ulb ucb uc ulc ucc).toArray 30)
  have HB := Lib.hid hb
  have HR := Lib.hid ((Row.new w (oC k p n c id af vk vn vs va vla vca vb vlb vcb vc vlc vcc) 30).alloc (.cells (oC k q n d id af uk un us ua ula uca ub ulb ucb uc ulc ucc).toArray 30))
  have HQ := Lib.hid (row_new1O w (.cells (oC k p n c id af vk vn vs va vla vca vb vlb vcb vc vlc vcc).toArray 30) (oC k q n d id af uk un us ua ula uca ub ulb ucb uc ulc ucc) 30)
  have HP := Lib.hid (psame_ref p q n n c d l l _ (hS.below hb) (hT.below hb) hn hn)
  have HV := Lib.hid (fun wx (hx : Below w.heap.size w wx) => rsameV_ref v u (vC vk vn vs va vla vca vb vlb vcb vc vlc vcc) (vC uk un us ua ula uca ub ulb ucb uc ulc ucc) wx (hV.later hx) (hU.later hx))
  have c0 := HR.out.cell (k := 0) rfl
  have c1 := HR.out.cell (k := 1) rfl
  have c2 := HR.out.cell (k := 2) rfl
  have c3 := HR.out.cell (k := 3) rfl
  have d0 := HQ.out.cell (k := 0) rfl
  have d1 := HQ.out.cell (k := 1) rfl
  have d2 := HQ.out.cell (k := 2) rfl
  have d3 := HQ.out.cell (k := 3) rfl
  clear hb hS hT hV hU
  go_enter Tryz.func12, Tryz.ntmps12
  go_wp2_with fail
  refine HP.out.mono ?_
  rintro e W1 ⟨rfl, hb⟩
  have HB1 := Lib.hid (HB.out.trans (hb.mono HB.out.size))
  have HR1 := Lib.hid (HR.out.belowAll hb)
  have HQ1 := Lib.hid (HQ.out.belowAll hb)
  rw [eqP_reflO]
  clear hb c0 c1 c2 c3 d0 d1 d2 d3
  have c4 := HR1.out.cell (k := 4) rfl
  have c5 := HR1.out.cell (k := 5) rfl
  have c6 := HR1.out.cell (k := 6) rfl
  have c7 := HR1.out.cell (k := 7) rfl
  have c8 := HR1.out.cell (k := 8) rfl
  have c9 := HR1.out.cell (k := 9) rfl
  have d4 := HQ1.out.cell (k := 4) rfl
  have d5 := HQ1.out.cell (k := 5) rfl
  have d6 := HQ1.out.cell (k := 6) rfl
  have d7 := HQ1.out.cell (k := 7) rfl
  have d8 := HQ1.out.cell (k := 8) rfl
  have d9 := HQ1.out.cell (k := 9) rfl
  go_wp2_with fail
  refine (HV.out _ HB1.out).mono ?_
  rintro e W2 ⟨rfl, hb⟩
  have HB2 := Lib.hid (HB1.out.trans (hb.mono HB1.out.size))
  rw [hs]
  clear hb
  go_wp2_with fail
  go_ret
  exact ⟨rfl, HB2.out⟩

set_option maxHeartbeats 1600000 in
theorem ogreat_any (k : Int) (id af : Int) (n : Nat) (l : List Stp) (p : Option Addr) (c : Nat) (vk vn : Int) (vs : ByteArray) (va : Option Addr) (vla vca : Nat) (vb : Option Addr) (vlb vcb : Nat) (vc : Option Addr) (vlc vcc : Nat) (v : Vt) (hn : n ≤ 9223372036854775807) (w : World) (hS : Sts w p n l) (hok : ∀ x ∈ l, StOk x) (hV : VAt w v (vC vk vn vs va vla vca vb vlb vcb vc vlc vcc)) :
    Calls Tryz.prog 4 #[.agg (oC k p n c id af vk vn vs va vla vca vb vlb vcb vc vlc vcc).toArray] w fun e w' => (∃ b : Bool, e = .returned (.bool b) ∧ (b = false → v.depth ≤ 12)) ∧ Below w.heap.size w w' := by
  have hb := below_newO w (.cells (oC k p n c id af vk vn vs va vla vca vb vlb vcb vc vlc vcc).toArray 30)
  have HB := Lib.hid hb
  have HR := Lib.hid (Row.new w (oC k p n c id af vk vn vs va vla vca vb vlb vcb vc vlc vcc) 30)
  have hp := pgreat_any p n c l _ (hS.below hb) hok hn
  have HV := Lib.hid (great_ref v (vC vk vn vs va vla vca vb vlb vcb vc vlc vcc) _ (hV.later hb))
  have c1 := HR.out.cell (k := 1) rfl
  have c4 := HR.out.cell (k := 4) rfl
  have c5 := HR.out.cell (k := 5) rfl
  have c6 := HR.out.cell (k := 6) rfl
  have c7 := HR.out.cell (k := 7) rfl
  have c8 := HR.out.cell (k := 8) rfl
  have c9 := HR.out.cell (k := 9) rfl
  obtain ⟨r, hr⟩ : ∃ r, greatP l = r := ⟨_, rfl⟩
  rw [hr] at hp
  have HP := Lib.hid hp
  clear hb hp hr hS hok hV
  go_enter Tryz.func4, Tryz.ntmps4
  go_wp2_with fail
  refine HP.out.mono ?_
  rintro e W1 ⟨rfl, rfl⟩
  cases r
  · go_wp2_with fail
    refine HV.out.mono ?_
    rintro e W2 ⟨⟨b, rfl, hg⟩, hb⟩
    have HB2 := Lib.hid (HB.out.trans (hb.mono HB.out.size))
    clear hb
    go_wp2_with fail
    go_ret
    exact ⟨⟨b, rfl, hg⟩, HB2.out⟩
  · go_wp2_with fail
    go_ret
    exact ⟨⟨true, rfl, fun h => by cases h⟩, HB.out⟩
end

section
set_option maxRecDepth 100000
set_option linter.unusedSimpArgs false
set_option linter.unusedVariables false
open Go.RowKit

/-- Whether an operation has a value that is too long alone. -/
def oLong (k : Int) (v : Vt) : Prop := (k = 1 ∨ k = 2) ∧ 4096 < v.bytes.length
theorem owrite_any (k : Int) (p : Option Addr) (n c : Nat) (l : List Stp) (id af : Int) (vk vn : Int) (vs : ByteArray) (va : Option Addr) (vla vca : Nat) (vb : Option Addr) (vlb vcb : Nat) (vc : Option Addr) (vlc vcc : Nat) (v : Vt) (W w : World) (a : Addr) (wv : Value) (k0 : List UInt8) (hi0 : 0 ≤ id) (hi1 : id < 18446744073709551616) (hf0 : 0 ≤ af) (hf1 : af < 18446744073709551616)
    (hS : Sts W p n l) (hok : ∀ x ∈ l, StOk x) (hr : rightO k l id af v = true) (hV : VAt W v (vC vk vn vs va vla vca vb vlb vcb vc vlc vcc)) (hw : WP W w a wv k0) (ha : W.heap.size ≤ a.block) (hk0 : k0.length ≤ 10000) :
    Calls Tryz.prog 17 #[.pointer (some a), .agg (oC k p n c id af vk vn vs va vla vca vb vlb vcb vc vlc vcc).toArray] w (OWd W a k0 (oBytes k l id af v) (oLong k v)) := by
  obtain ⟨i, rfl⟩ := Int.eq_ofNat_of_zero_le hi0
  obtain ⟨f, rfl⟩ := Int.eq_ofNat_of_zero_le hf0
  have hi2 : i < 18446744073709551616 := by omega
  have hf2 : f < 18446744073709551616 := by omega
  have lno : ∀ {k : Int}, k ≠ 1 → k ≠ 2 → oLong k v = False := fun h1 h2 => by unfold oLong; simp [h1, h2]
  have lyes : ∀ {k : Int}, (k = 1 ∨ k = 2) → oLong k v = (4096 < v.bytes.length) := fun h => by unfold oLong; simp [h]
  obtain ⟨hP, ⟨rfl, h1, h2, h3⟩ | ⟨rfl, h1, h2, h3⟩ | ⟨rfl, h1, h2, h3⟩ | ⟨rfl, h1, h2, h3⟩⟩ := rightO_cases hr
  · have h := owrite_1 p n c l vk vn vs va vla vca vb vlb vcb vc vlc vcc v W w a wv k0 hS hok hP h3 hV hw ha hk0
    rw [lyes (.inl rfl), h1, h2]
    exact h
  · have h := owrite_2 p n c l i f hi2 hf2 vk vn vs va vla vca vb vlb vcb vc vlc vcc v W w a wv k0 hS hok hP h3 hV hw ha hk0
    rw [lyes (.inr rfl)]
    exact h
  · have h := owrite_3 p n c l i hi2 vk vn vs va vla vca vb vlb vcb vc vlc vcc v W w a wv k0 hS hok hP hw ha hk0
    rw [lno (by decide) (by decide), h1]
    exact h
  · have h := owrite_4 p n c l i f hi2 hf2 vk vn vs va vla vca vb vlb vcb vc vlc vcc v W w a wv k0 hS hok hP hw ha hk0
    rw [lno (by decide) (by decide)]
    exact h

/-- What Encode answers. -/
def OEnc (B : Nat) (w' : World) (r : Bool) (bs : List UInt8) (long : Prop) (e : Ending) : Prop :=
  if r = true then
    (¬ long ∧ bs.length ≤ 4096 → ∃ a c, e = .returned (.tuple #[.slice a bs.length c, .nilIface]) ∧ w'.ownsRow B 5 1 (.slice a bs.length c) bs.length (Bs bs)) ∧
    (long ∨ 4096 < bs.length → e = .returned (.tuple #[.slice none 0 0, .iface 50 (.int .i64 3)]))
  else e = .returned (.tuple #[.slice none 0 0, .iface 50 (.int .i64 1)])

set_option maxHeartbeats 3200000 in
theorem oencode_any (k : Int) (p : Option Addr) (n c : Nat) (l : List Stp) (id af : Int) (vk vn : Int) (vs : ByteArray) (va : Option Addr) (vla vca : Nat) (vb : Option Addr) (vlb vcb : Nat) (vc : Option Addr) (vlc vcc : Nat) (v : Vt) (w : World) (hi0 : 0 ≤ id) (hi1 : id < 18446744073709551616) (hf0 : 0 ≤ af) (hf1 : af < 18446744073709551616) (hn : n ≤ 9223372036854775807)
    (hS : Sts w p n l) (hok : ∀ x ∈ l, StOk x) (hV : VAt w v (vC vk vn vs va vla vca vb vlb vcb vc vlc vcc)) :
    Calls Tryz.prog 6 #[.agg (oC k p n c id af vk vn vs va vla vca vb vlb vcb vc vlc vcc).toArray] w fun e w' => OEnc w.heap.size w' (rightO k l id af v) (oBytes k l id af v) (oLong k v) e ∧ Below w.heap.size w w' := by
  have hw := below_newO w (.cells (oC k p n c id af vk vn vs va vla vca vb vlb vcb vc vlc vcc).toArray 30)
  have HR := Lib.hid (oright_any k p n c l id af vk vn vs va vla vca vb vlb vcb vc vlc vcc v hn _ (hS.below hw) hok (hV.later hw))
  have HW := Lib.hid hw
  have HB0 := Lib.hid (Row.new w (oC k p n c id af vk vn vs va vla vca vb vlb vcb vc vlc vcc) 30)
  have HWR := Lib.hid (fun (hr : rightO k l id af v = true) (wx : World) (a : Addr) (wv : Value) (hx : WP w wx a wv []) (ha : w.heap.size ≤ a.block) => owrite_any k p n c l id af vk vn vs va vla vca vb vlb vcb vc vlc vcc v w wx a wv [] hi0 hi1 hf0 hf1 hS hok hr hV hx ha (by simp))
  clear hw hS hok hV
  cases hr : rightO k l id af v
  · rw [hr] at HR
    clear HWR hr
    go_enter Tryz.func6, Tryz.ntmps6
    go_wp2_with (refine wpList_load_row rfl 30 (.tmp 1) rfl w.heap.size rfl 30 _ (0, 0) _ HB0.out Tryz.underlying30 rfl o_info ?_)
    refine HR.out.mono ?_
    rintro e W1 ⟨rfl, hb⟩
    have HB := Lib.hid hb
    clear hb
    go_wp2_with fail
    go_ret2
    refine ⟨?_, HW.out.trans (HB.out.mono HW.out.size)⟩
    unfold OEnc
    rw [if_neg (by decide)]
    rfl
  · rw [hr] at HR
    have HWQ := Lib.hid (HWR.out hr)
    clear HWR hr
    generalize oBytes k l id af v = bs at *
    generalize oLong k v = long at *
    go_enter Tryz.func6, Tryz.ntmps6
    go_wp2_with (refine wpList_load_row rfl 30 (.tmp 1) rfl w.heap.size rfl 30 _ (0, 0) _ HB0.out Tryz.underlying30 rfl o_info ?_)
    refine HR.out.mono ?_
    rintro e W1 ⟨rfl, hb⟩
    have HB := Lib.hid hb
    clear hb
    have HB1 := Lib.hid (HB0.out.belowAll HB.out)
    have hwp : WP w (W1.alloc (.cells #[.slice none 0 0] 52)) ⟨W1.heap.size, 0, none⟩ (.slice none 0 0) [] :=
      ⟨⟨by simp, by simp, World.ownsRow_nil _ _ _ _, by simp [Value.ownBlock]⟩, (HW.out.trans (HB.out.mono HW.out.size)).trans ((below_new W1 _).mono (Nat.le_trans HW.out.size HB.out.size)), fun j hj => by simp [Value.ownBlock] at hj⟩
    have hsz : w.heap.size ≤ W1.heap.size := Nat.le_trans HW.out.size HB.out.size
    have HB2 := Lib.hid (HB1.out.alloc (.cells #[.slice none 0 0] 52))
    have HWS := Lib.hid (HWQ.out _ ⟨W1.heap.size, 0, none⟩ _ hwp hsz)
    clear hwp
    go_wp2_with (refine wpList_load_row rfl 30 (.tmp 1) rfl w.heap.size rfl 30 _ (0, 0) _ HB2.out Tryz.underlying30 rfl o_info ?_)
    refine HWS.out.mono ?_
    rintro e W2 ⟨v2, k2, hw2, hl2, hL, hN⟩
    have HW2 := Lib.hid hw2
    have hk2 : k2.length ≤ 5000 := by simpa using hl2
    clear hw2 hl2
    by_cases hlong : long
    · obtain rfl := hL hlong
      clear hL hN
      go_wp2_with fail
      refine (out_any ⟨W1.heap.size, 0, none⟩ v2 k2 W2 HW2.out.wr (by omega)).mono ?_
      rintro e W3 ⟨v3, rfl, ho, hb⟩
      have HB3 := Lib.hid (HW2.out.be.trans (hb.mono HW2.out.be.size))
      clear ho hb
      go_wp2_with fail
      go_ret2
      refine ⟨?_, HB3.out⟩
      unfold OEnc
      rw [if_pos rfl]
      exact ⟨fun h => absurd hlong h.1, fun _ => rfl⟩
    · obtain ⟨rfl, hk⟩ := hN hlong
      rw [List.nil_append] at hk
      subst hk
      clear hL hN
      go_wp2_with fail
      refine (out_any ⟨W1.heap.size, 0, none⟩ v2 k2 W2 HW2.out.wr (by omega)).mono ?_
      rintro e W3 ⟨v3, rfl, ho, hb⟩
      obtain ⟨a3, c3, rfl⟩ := own_slice ho
      have hz : w.heap.size ≤ W2.heap.size := HW2.out.be.size
      have HO := Lib.hid ho
      have HB3 := Lib.hid (HW2.out.be.trans (hb.mono HW2.out.be.size))
      clear ho hb
      by_cases h4 : k2.length ≤ 4096
      · have h4i : ¬ (4096 : Int) < (k2.length : Int) := by omega
        go_wp2_with fail
        go_ret2
        refine ⟨?_, HB3.out⟩
        unfold OEnc
        rw [if_pos rfl]
        exact ⟨fun _ => ⟨a3, c3, rfl, HO.out.1, HO.out.2.imp (fun h => h) fun ⟨g, cap, cur, h1, h2, h3⟩ => ⟨g, cap, cur, h1, Nat.le_trans hz h2, h3⟩⟩, fun h => absurd h (by rintro (h | h); exact hlong h; omega)⟩
      · have h4i : (4096 : Int) < (k2.length : Int) := by omega
        go_wp2_with fail
        go_ret2
        refine ⟨?_, HB3.out⟩
        unfold OEnc
        rw [if_pos rfl]
        exact ⟨fun h => absurd h.2 h4, fun _ => rfl⟩
end

section
open Go.RowKit

theorem Bs_at {l : List UInt8} {k : Nat} (hk : k < l.length) : (Bs l)[k]? = some (.int .u8 ((l[k]'hk).toNat : Int)) := by
  rw [Bs_get, List.getElem?_eq_getElem hk]; rfl

theorem take_eq_get {l m : List UInt8} {k : Nat} {x : UInt8} (h : l.take k = m.take k) (h1 : l[k]? = some x) (h2 : m[k]? = some x) : l.take (k + 1) = m.take (k + 1) := by
  rw [List.take_add_one, List.take_add_one, h, h1, h2]

set_option maxHeartbeats 400000 in
theorem bytes_ne (a b : Option Addr) (n m c d : Nat) (w : World) (h : n ≠ m) :
    Calls Tryz.prog 11 #[.slice a n c, .slice b m d] w fun e w' => e = .returned (.bool false) ∧ w = w' := by
  have h1 : (((n : Nat) : Int) != m) = true := by rw [bne_iff_ne]; omega
  have h2 : (n != m) = true := by rw [bne_iff_ne]; omega
  go_enter Tryz.func11, Tryz.ntmps11
  go_wp2
  go_ret
  exact ⟨rfl, rfl⟩

set_option maxHeartbeats 800000 in
theorem bytes_len (a b : Option Addr) (n c d : Nat) (l m : List UInt8) (F G : Nat → Prop) (w : World) (hn : n ≤ 9223372036854775807) (ha : Rd w F a n (Bs l)) (hb : Rd w G b n (Bs m)) :
    Calls Tryz.prog 11 #[.slice a n c, .slice b n d] w fun e w' => e = .returned (.bool (decide (l = m))) ∧ ∃ q, w' = w.drewN q := by
  have hl : l.length = n := by have := ha.1; rwa [Bs_length] at this
  have hm : m.length = n := by have := hb.1; rwa [Bs_length] at this
  have HL := Lib.hid hl
  have HM := Lib.hid hm
  have HA := Lib.hid ha
  have HB := Lib.hid hb
  clear hl hm ha hb
  go_enter Tryz.func11, Tryz.ntmps11
  go_wp2
  go_loopw [5] (fun i wr => ∃ k q : Nat, k ≤ n ∧ i = .int .i64 k ∧ wr = w.drewN q ∧ l.take k = m.take k) (fun i _ => n - (intOf i).toNat)
  case atStart => exact ⟨0, 0, Nat.zero_le _, rfl, rfl, rfl⟩
  case round =>
    obtain ⟨k, q, hk, rfl, rfl, ht⟩ := hrel
    have HT := Lib.hid ht
    clear ht
    by_cases hlt : k < n
    · obtain ⟨a0, x, rfl, hab, hx, hca⟩ := HA.out.byte hlt
      obtain ⟨b0, y, rfl, hbb, hy, hcb⟩ := HB.out.byte hlt
      have HX := Lib.hid hx
      have HY := Lib.hid hy
      clear hx hy
      by_cases hxy : x = y
      · subst hxy
        have h1 : (((x.toNat : Nat) : Int) != (x.toNat : Nat)) = false := by simp
        go_wp2
        go_quiet (fail)
        go_wp2
        go_roundw
        case rel => exact ⟨k + 1, _, by omega, by go_num, rfl, take_eq_get HT.out HX.out HY.out⟩
        case measure => simp [intOf]; omega
      · have h1 : (((x.toNat : Nat) : Int) != (y.toNat : Nat)) = true := by
          rw [bne_iff_ne]; intro h; exact hxy (UInt8.toNat_inj.1 (by omega))
        have hne : l ≠ m := by
          rintro rfl
          have := HX.out.symm.trans HY.out
          exact hxy (Option.some.inj this)
        have h2 : decide (l = m) = false := by simp [hne]
        clear hne hxy
        have H2 := Lib.hid h2
        clear h2
        go_wp2
        go_quiet (fail)
        go_wp2
        go_ret
        exact ⟨by rw [H2.out]; rfl, _, World.drewN_drewN _ _ _⟩
    · have he : k = n := by omega
      have hx : l = m := by
        have := HT.out
        rw [he, List.take_of_length_le (by rw [HL.out]; omega), List.take_of_length_le (by rw [HM.out]; omega)] at this
        exact this
      clear he
      go_wp2
      go_ret
      exact ⟨by simp [hx], q, rfl⟩

theorem bytes_any (a b : Option Addr) (n m c d : Nat) (l k : List UInt8) (F G : Nat → Prop) (w : World) (hn : n ≤ maxLen) (ha : Rd w F a n (Bs l)) (hb : Rd w G b m (Bs k)) :
    Calls Tryz.prog 11 #[.slice a n c, .slice b m d] w fun e w' => e = .returned (.bool (decide (l = k))) ∧ ∃ q, w' = w.drewN q := by
  by_cases h : n = m
  · subst h
    exact bytes_len a b n c d l k F G w (by unfold maxLen at hn; omega) ha hb
  · refine (bytes_ne a b n m c d w h).mono fun e w' ⟨he, hw⟩ => ⟨?_, 0, hw.symm⟩
    have : ¬ l = k := by
      rintro rfl
      exact h (ha.len.symm.trans hb.len)
    rw [he, decide_eq_false this]
end

section
set_option maxRecDepth 100000
set_option linter.unusedSimpArgs false
set_option linter.unusedVariables false
open Go.RowKit

theorem bl_drewO {B : Nat} {w w' : World} (h : Below B w w') (n : Nat) : Below B w (w'.drewN n) := ⟨h.os, h.tape, h.output, h.size, h.block⟩
theorem oB_long {k : Int} {l : List Stp} {id af : Int} {v : Vt} (h : oLong k v) : 4096 < (oBytes k l id af v).length := by
  obtain ⟨rfl | rfl, h4⟩ := h <;> simp [oBytes, oTail] <;> omega

set_option maxHeartbeats 6400000 in
theorem oencodes_walk (k : Int) (p : Option Addr) (n c : Nat) (l : List Stp) (id af : Int) (vk vn : Int) (vs : ByteArray) (va : Option Addr) (vla vca : Nat) (vb : Option Addr) (vlb vcb : Nat) (vc : Option Addr) (vlc vcc : Nat) (v : Vt) (w : World) (hA : ∀ wx, Calls Tryz.prog 5 #[] wx fun e w' => e = .returned (.bool true) ∧ Below wx.heap.size wx w')
    (hi0 : 0 ≤ id) (hi1 : id < 18446744073709551616) (hf0 : 0 ≤ af) (hf1 : af < 18446744073709551616) (hn : n ≤ 9223372036854775807) (hS : Sts w p n l) (hok : ∀ x ∈ l, StOk x) (hV : VAt w v (vC vk vn vs va vla vca vb vlb vcb vc vlc vcc)) (hty : ErrTy w) :
    Calls Tryz.prog 3 #[.agg (oC k p n c id af vk vn vs va vla vca vb vlb vcb vc vlc vcc).toArray] w fun e w' => e = .returned (.bool true) ∧ Below w.heap.size w w' := by
  have hw := below_newO w (.cells (oC k p n c id af vk vn vs va vla vca vb vlb vcb vc vlc vcc).toArray 30)
  have HB0 := Lib.hid (Row.new w (oC k p n c id af vk vn vs va vla vca vb vlb vcb vc vlc vcc) 30)
  have HS := Lib.hid (fun wx (hx : Below w.heap.size w wx) => hS.below hx)
  have HV := Lib.hid (fun wx (hx : Below w.heap.size w wx) => hV.later hx)
  have HTY := Lib.hid (fun wx (hx : Below w.heap.size w wx) => hty.below hx hty.pos)
  have HW := Lib.hid hw
  have HIN := Lib.hid hV.inn
  have HOK := Lib.hid hok
  have HLN := Lib.hid hS.1
  have HNN := Lib.hid hn
  have HII := Lib.hid (And.intro hi0 (And.intro hi1 (And.intro hf0 hf1)))
  have HAW := Lib.hid hA
  clear hw hS hV hty hok hA hn hi0 hi1 hf0 hf1
  go_enter Tryz.func3, Tryz.ntmps3
  go_wp2_with (refine wpList_load_row rfl 30 (.tmp 1) rfl w.heap.size rfl 30 _ (0, 0) _ HB0.out Tryz.underlying30 rfl o_info ?_)
  refine (ogreat_any k id af n l p c vk vn vs va vla vca vb vlb vcb vc vlc vcc v HNN.out _ (HS.out _ HW.out) HOK.out (HV.out _ HW.out)).mono ?_
  rintro e W1 ⟨⟨b1, rfl, hg1⟩, hb⟩
  have HW1 := Lib.hid (HW.out.trans (hb.mono HW.out.size))
  have HB1 := Lib.hid (HB0.out.belowAll hb)
  clear hb
  cases b1
  · have hdp := hg1 rfl
    clear hg1
    go_wp2_with (refine wpList_load_row rfl 30 (.tmp 1) rfl w.heap.size rfl 30 _ (0, 0) _ HB1.out Tryz.underlying30 rfl o_info ?_)
    refine (oencode_any k p n c l id af vk vn vs va vla vca vb vlb vcb vc vlc vcc v _ HII.out.1 HII.out.2.1 HII.out.2.2.1 HII.out.2.2.2 HNN.out (HS.out _ HW1.out) HOK.out (HV.out _ HW1.out)).mono ?_
    rintro e W2 ⟨henc, hb⟩
    have HW2 := Lib.hid (HW1.out.trans (hb.mono HW1.out.size))
    have HB2 := Lib.hid (HB1.out.belowAll hb)
    have HSZ := Lib.hid hb.size
    clear hb
    have HRR := Lib.hid (oright_ref k p n c l id af vk vn vs va vla vca vb vlb vcb vc vlc vcc v HNN.out (by omega) W2 (HS.out _ HW2.out) HOK.out (HV.out _ HW2.out))
    unfold OEnc at henc
    by_cases hr : rightO k l id af v = true
    · rw [if_pos hr] at henc
      rw [hr] at HRR
      have HR := Lib.hid hr
      have HBY := Lib.hid (fun wx (hx : Below w.heap.size w wx) => obytes_ref k p n c l id af vk vn vs va vla vca vb vlb vcb vc vlc vcc v wx HII.out.1 HII.out.2.1 HII.out.2.2.1 HII.out.2.2.2 HNN.out (HS.out _ hx) HOK.out HR.out (HV.out _ hx))
      by_cases h4 : (oBytes k l id af v).length ≤ 4096
      · have hnl : ¬ oLong k v := fun hl => absurd (oB_long (l := l) (id := id) (af := af) hl) (by omega)
        have HD := Lib.hid (fun wx F a ca (hx : Rd wx F a (oBytes k l id af v).length (Bs (oBytes k l id af v))) => odecode_any a ca F k l id af v HR.out HOK.out HII.out.1 HII.out.2.1 HII.out.2.2.1 HII.out.2.2.2 HIN.out wx hx h4)
        obtain ⟨bs, hbs⟩ : ∃ bs, oBytes k l id af v = bs := ⟨_, rfl⟩
        rw [hbs] at henc HBY HD h4
        obtain ⟨a, ca, rfl, hown⟩ := henc.1 ⟨hnl, h4⟩
        have HOW := Lib.hid hown
        have h4i : ¬ (4096 : Int) < (bs.length : Int) := by omega
        clear hr hown henc hnl
        have HBS := Lib.hid hbs
        clear hbs
        go_wp2_with (refine wpList_load_row rfl 30 (.tmp 1) rfl w.heap.size rfl 30 _ (0, 0) _ HB2.out Tryz.underlying30 rfl o_info ?_)
        refine HRR.out.mono ?_
        rintro e W3 ⟨rfl, hb⟩
        have HW3 := Lib.hid (HW2.out.trans (hb.mono HW2.out.size))
        have HB3 := Lib.hid (HB2.out.belowAll hb)
        have HO3 := Lib.hid (own_only HOW.out (Only.of_below hb (fun _ => False)) fun _ _ h => h)
        clear hb
        go_wp2_with (refine wpList_load_row rfl 30 (.tmp 1) rfl w.heap.size rfl 30 _ (0, 0) _ HB3.out Tryz.underlying30 rfl o_info ?_)
        refine (HBY.out _ HW3.out).mono ?_
        rintro e W4 ⟨v4, rfl, ho4, hb⟩
        obtain ⟨a4, c4, rfl⟩ := own_slice ho4
        have HW4 := Lib.hid (HW3.out.trans (hb.mono HW3.out.size))
        have HB4 := Lib.hid (HB3.out.belowAll hb)
        have HO4 := Lib.hid (own_only HO3.out (Only.of_below hb (fun _ => False)) fun _ _ h => h)
        have HP4 := Lib.hid ho4
        clear hb ho4
        have HDD := Lib.hid (HD.out W4 _ a ca (Rd.of_own HO4.out))
        go_wp2_with fail
        refine HDD.out.mono ?_
        rintro e W5 ⟨q, cq, kd, nd, sd, ad, lad, cad, bd, lbd, cbd, ed, led, ced, v', rfl, hoq, hsv, ⟨X, hsx, _⟩, hb⟩
        rw [HLN.out] at hoq
        have hq5 := (sts_own (l := l) (by rw [HLN.out]; exact hoq)).below (below_new W5 (.cells (oC k q n cq id af kd nd sd ad lad cad bd lbd cbd ed led ced).toArray 30))
        rw [HLN.out] at hq5 ⊢
        have HTQ := Lib.hid hq5
        have HSV := Lib.hid hsv
        have HW5 := Lib.hid ((HW4.out.trans (hb.mono HW4.out.size)).trans ((below_new W5 (.cells (oC k q n cq id af kd nd sd ad lad cad bd lbd cbd ed led ced).toArray 30)).mono (HW4.out.trans (hb.mono HW4.out.size)).size))
        have HB5 := Lib.hid ((HB4.out.belowAll hb).alloc (.cells (oC k q n cq id af kd nd sd ad lad cad bd lbd cbd ed led ced).toArray 30))
        have HN5 := Lib.hid (Row.new W5 (oC k q n cq id af kd nd sd ad lad cad bd lbd cbd ed led ced) 30)
        have HQ5 := Lib.hid (hsx.vat.later (below_new W5 (.cells (oC k q n cq id af kd nd sd ad lad cad bd lbd cbd ed led ced).toArray 30)))
        have hbe := bytes_any a a4 bs.length bs.length ca c4 bs bs _ _ (W5.alloc (.cells (oC k q n cq id af kd nd sd ad lad cad bd lbd cbd ed led ced).toArray 30)) (by unfold maxLen; omega)
          (Rd.of_own (World.ownsRow.alloc (own_only HO4.out (Only.of_below hb (fun _ => False)) fun _ _ h => h) _)) (Rd.of_own (World.ownsRow.alloc (own_only HP4.out (Only.of_below hb (fun _ => False)) fun _ _ h => h) _))
        rw [decide_eq_true rfl] at hbe
        have HBE := Lib.hid hbe
        clear hb hbe hsx hoq hq5 hsv
        go_wp2_with fail
        refine HBE.out.mono ?_
        rintro e W6 ⟨rfl, m, rfl⟩
        have hsm := osame_ref k id af n l q cq kd nd sd ad lad cad bd lbd cbd ed led ced v' p c vk vn vs va vla vca vb vlb vcb vc vlc vcc v HNN.out ((W5.alloc (.cells (oC k q n cq id af kd nd sd ad lad cad bd lbd cbd ed led ced).toArray 30)).drewN m) (HTQ.out.drewN m) (HS.out _ (bl_drewO HW5.out m)) (HQ5.out.later (bl_drewO (Below.refl _ _) m)) (HV.out _ (bl_drewO HW5.out m)) HSV.out
        have HSM := Lib.hid hsm
        have HB6 := Lib.hid (show Row ((W5.alloc (.cells (oC k q n cq id af kd nd sd ad lad cad bd lbd cbd ed led ced).toArray 30)).drewN m) w.heap.size 30 (oC k p n c id af vk vn vs va vla vca vb vlb vcb vc vlc vcc) from HB5.out)
        have HN6 := Lib.hid (show Row ((W5.alloc (.cells (oC k q n cq id af kd nd sd ad lad cad bd lbd cbd ed led ced).toArray 30)).drewN m) W5.heap.size 30 (oC k q n cq id af kd nd sd ad lad cad bd lbd cbd ed led ced) from HN5.out)
        clear hsm
        go_wp2_with (first | (refine wpList_load_guarded (by rfl) 30 (.tmp 6) rfl W5.heap.size rfl 30 _ HN6.out Tryz.underlying30 rfl o_info ?_) | (refine wpList_load_guarded (by rfl) 30 (.tmp 1) rfl w.heap.size rfl 30 _ HB6.out Tryz.underlying30 rfl o_info ?_))
        refine HSM.out.mono ?_
        rintro e W7 ⟨rfl, hb⟩
        have HW7 := Lib.hid ((bl_drewO HW5.out m).trans (hb.mono (bl_drewO HW5.out m).size))
        clear hb
        go_wp2_with fail
        refine (HAW.out _).mono ?_
        rintro e W8 ⟨rfl, hb⟩
        have HW8 := Lib.hid (HW7.out.trans (hb.mono HW7.out.size))
        clear hb
        go_wp2_with fail
        go_ret
        exact ⟨rfl, HW8.out⟩
      · obtain rfl := henc.2 (.inr (by omega))
        have h4i : (4096 : Int) < ((oBytes k l id af v).length : Int) := by omega
        clear hr henc
        generalize oBytes k l id af v = bs at *
        go_wp2_with (refine wpList_load_row rfl 30 (.tmp 1) rfl w.heap.size rfl 30 _ (0, 0) _ HB2.out Tryz.underlying30 rfl o_info ?_)
        refine HRR.out.mono ?_
        rintro e W3 ⟨rfl, hb⟩
        have HW3 := Lib.hid (HW2.out.trans (hb.mono HW2.out.size))
        have HB3 := Lib.hid (HB2.out.belowAll hb)
        clear hb
        go_wp2_with (refine wpList_load_row rfl 30 (.tmp 1) rfl w.heap.size rfl 30 _ (0, 0) _ HB3.out Tryz.underlying30 rfl o_info ?_)
        refine (HBY.out _ HW3.out).mono ?_
        rintro e W4 ⟨v4, rfl, ho4, hb⟩
        obtain ⟨a4, c4, rfl⟩ := own_slice ho4
        have HW4 := Lib.hid (HW3.out.trans (hb.mono HW3.out.size))
        clear hb ho4
        go_wp2_with fail
        refine (lcode_plain 3 _ (HTY.out _ HW4.out)).mono ?_
        rintro e W5 ⟨rfl, hb⟩
        have HW5 := Lib.hid (HW4.out.trans (hb.mono HW4.out.size))
        clear hb
        go_wp2_with fail
        refine (HAW.out _).mono ?_
        rintro e W8 ⟨rfl, hb⟩
        have HW8 := Lib.hid (HW5.out.trans (hb.mono HW5.out.size))
        clear hb
        go_wp2_with fail
        go_ret
        exact ⟨rfl, HW8.out⟩
    · have hr' : rightO k l id af v = false := by simpa using hr
      rw [if_neg hr] at henc
      rw [hr'] at HRR
      subst henc
      clear hr hr'
      go_wp2_with (refine wpList_load_row rfl 30 (.tmp 1) rfl w.heap.size rfl 30 _ (0, 0) _ HB2.out Tryz.underlying30 rfl o_info ?_)
      refine HRR.out.mono ?_
      rintro e W4 ⟨rfl, hb⟩
      have HW4 := Lib.hid (HW2.out.trans (hb.mono HW2.out.size))
      clear hb
      go_wp2_with fail
      refine (lcode_plain 1 _ (HTY.out _ HW4.out)).mono ?_
      rintro e W5 ⟨rfl, hb⟩
      have HW5 := Lib.hid (HW4.out.trans (hb.mono HW4.out.size))
      clear hb
      go_wp2_with fail
      refine (HAW.out _).mono ?_
      rintro e W8 ⟨rfl, hb⟩
      have HW8 := Lib.hid (HW5.out.trans (hb.mono HW5.out.size))
      clear hb
      go_wp2_with fail
      go_ret
      exact ⟨rfl, HW8.out⟩
  · clear hg1
    go_wp2_with fail
    refine (HAW.out _).mono ?_
    rintro e W8 ⟨rfl, hb⟩
    have HW8 := Lib.hid (HW1.out.trans (hb.mono HW1.out.size))
    clear hb
    go_wp2_with fail
    go_ret
    exact ⟨rfl, HW8.out⟩
end

end Go.Proofs.YtmiadkhfjkaidaaGreatDoor
