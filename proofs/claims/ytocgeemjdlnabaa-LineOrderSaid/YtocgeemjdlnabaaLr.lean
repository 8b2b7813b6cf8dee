/- LineOrder's walk. -/
import Derived.Test.YtocgeemjdlnabaaLp
import Derived.Test.YtocgeemjdlnabaaLu
namespace Go.Proofs.Ytocgeemjdlnabaa
set_option maxRecDepth 100000
set_option linter.unusedSimpArgs false
set_option linter.unusedVariables false
open Go.RowKit

theorem perm_So {D L : List Mk} (ha : Asc L) (h1 : ∀ x ∈ L, x ∈ D) (h2 : ∀ x ∈ D, x ∈ L) : So D = L := (So_of ha fun x => ⟨h1 x, h2 x⟩).symm
set_option maxHeartbeats 6400000 in
theorem order_walk (A B : Option Addr) (n nb c cb : Nat) (D : List Mk) (O : List Nat) (w : World) (hr : RdHM w A n D) (hB : RdY w B nb O) :
    Calls Try.prog 6 #[.slice A n c, .slice B nb cb] w fun e w' => e = .returned (.bool true) ∧ Below w.heap.size w w' := by
  have HA := Lib.hid awake18
  by_cases h40 : 40 < n
  · have h40i : (40 : Int) < (n : Int) := by omega
    clear hr hB
    go_enter Try.func6, Try.ntmps6
    go_wp2_with fail
    refine (HA.out _).mono ?_
    rintro e w' ⟨rfl, hb⟩
    have HBB := Lib.hid hb
    clear hb
    go_wp2_with fail
    go_ret
    exact ⟨rfl, HBB.out⟩
  have h40i : ¬ (40 : Int) < (n : Int) := by omega
  by_cases h80 : 80 < nb
  · have h80i : (80 : Int) < (nb : Int) := by omega
    clear hr hB
    go_enter Try.func6, Try.ntmps6
    go_wp2_with fail
    refine (HA.out _).mono ?_
    rintro e w' ⟨rfl, hb⟩
    have HBB := Lib.hid hb
    clear hb
    go_wp2_with fail
    go_ret
    exact ⟨rfl, HBB.out⟩
  have h80i : ¬ (80 : Int) < (nb : Int) := by omega
  have hDn := hr.1
  have hOn := hB.1
  have HR := Lib.hid hr
  have HY := Lib.hid hB
  clear hr hB
  go_enter Try.func6, Try.ntmps6
  go_wp2_with fail
  go_loopw [5, 7] (fun v j wr => ∃ k A' n' c', k ≤ n ∧ j = .int .i64 (k : Int) ∧ v = .slice A' n' c' ∧ RdHM wr A' n' (So (D.take k)) ∧ Pln A' ∧ n' ≤ c' ∧ Below w.heap.size w wr) (fun _ j _ => n - (intOf j).toNat)
  case atStart => exact ⟨0, none, 0, 0, by omega, rfl, rfl, RdHM.nil _ 0, Or.inl rfl, by omega, Below.refl _ _⟩
  case round =>
    obtain ⟨k, A', n', c', hkn, rfl, rfl, hr, hp, hnc, hb⟩ := hrel
    have hn' : n' ≤ 40 := by
      have h1 := hr.1
      have h2 := So_len (D.take k)
      rw [List.length_take] at h2
      omega
    by_cases hlt : k < n
    · have hx : D[k]? = some (D[k]'(by omega)) := List.getElem?_eq_getElem _
      generalize (D[k]'(by omega)) = x at hx
      obtain ⟨b, o, rfl, hbl, hrg⟩ := rdh_atM (HR.out.keep hb) (by omega)
      have hki : (k : Int) < (n : Int) := by omega
      have hki0 : (0 : Int) ≤ (k : Int) := by omega
      have hw : IntKind.i64.wrap ((k : Int) + 1) = ((k + 1 : Nat) : Int) := by rw [IntKind.wrap_i64]; omega
      have HXR := Lib.hid (hrg k x hx)
      have HIM := Lib.hid (hs_infoEM x)
      have HIN := Lib.hid (insert_any A' n' c' _ x wr hr hp hnc (So_asc _) (by omega))
      have HNX := Lib.hid (So_next hx)
      have HB := Lib.hid hb
      clear hx hrg hr hb
      go_wp2_with (refine wpList_load_mid rfl 26 (.tmp 29) rfl b (o + k * 33) rfl (Mk.c x) _ HXR.out Try.underlying26 rfl HIM.out ?_)
      refine HIN.out.mono ?_
      rintro e W1 ⟨v2, rfl, ho2, hb2⟩
      obtain ⟨A2, c2, rfl, hr2, hp2, hnc2⟩ := own_pln ho2
      have HR2 := Lib.hid hr2
      have HB2 := Lib.hid (HB.out.trans (hb2.mono HB.out.size))
      clear hr2 hb2 ho2
      generalize (ins (So (D.take k)) x).length = n2 at *
      rw [← HNX.out] at HR2
      go_wp2_with fail
      go_roundw
      case rel => exact ⟨k + 1, A2, _, c2, by omega, by go_num, by first | rfl | trivial, HR2.out, hp2, hnc2, HB2.out⟩
      case measure => simp [intOf] <;> omega
    · obtain rfl : k = n := by omega
      have hni : ¬ (k : Int) < (k : Int) := by omega
      rw [List.take_of_length_le (by omega)] at hr
      obtain ⟨W5, hW5⟩ : ∃ W5, W5 = wr := ⟨_, rfl⟩
      subst hW5
      have HR5 := Lib.hid hr
      have HB1 := Lib.hid hb
      clear hr hb
      go_wp2_with fail
      go_loopw [6, 8] (fun v j wr => ∃ k2 A2 n2 c2 L, k2 ≤ nb ∧ j = .int .i64 (k2 : Int) ∧ v = .slice A2 n2 c2 ∧ RdHM wr A2 n2 L ∧ Asc L ∧ (∀ x ∈ L, x ∈ D) ∧ Pln A2 ∧ n2 ≤ c2 ∧ n2 ≤ k2 ∧ Below W5.heap.size W5 wr) (fun _ j _ => nb - (intOf j).toNat)
      case atStart => exact ⟨0, none, 0, 0, [], by omega, rfl, rfl, RdHM.nil _ 0, List.Pairwise.nil, by simp, Or.inl rfl, by omega, by omega, Below.refl _ _⟩
      case round =>
        obtain ⟨k2, A2, n2, c2, L, hk2, rfl, rfl, hr2, hasc, hsub, hp2, hnc2, hle2, hb2⟩ := hrel
        by_cases hlt2 : k2 < nb
        · have hk2i : (k2 : Int) < (nb : Int) := by omega
          have hk2i0 : (0 : Int) ≤ (k2 : Int) := by omega
          by_cases hk0 : 0 < k
          · have hk0i : (0 : Int) < (k : Int) := by omega
            have hyo : O[k2]? = some (O[k2]'(by omega)) := List.getElem?_eq_getElem _
            generalize (O[k2]'(by omega)) = y at hyo
            have hym : y % k < k := Nat.mod_lt _ hk0
            have hx : D[y % k]? = some (D[y % k]'(by omega)) := List.getElem?_eq_getElem _
            generalize (D[y % k]'(by omega)) = x at hx
            have hbw := HB1.out.trans (hb2.mono HB1.out.size)
            obtain ⟨b, o, rfl, hbl, hrg⟩ := rdh_atM (HR.out.keep hbw) hk0
            obtain ⟨b', o', rfl, hbl', hcy⟩ := (HY.out.keep hbw).2 (by omega)
            obtain ⟨hy256, hcell⟩ := hcy k2 y hyo
            have hwy : wrap64 ((y : Nat) : Int) = ((y : Nat) : Int) := by unfold wrap64; omega
            have hrem : ((y : Nat) : Int).tmod ((k : Nat) : Int) = ((y % k : Nat) : Int) := rfl
            have hne : ((k : Nat) : Int) ≠ 0 := by omega
            have hyi : ((y % k : Nat) : Int) < (k : Int) := by omega
            have hyi0 : (0 : Int) ≤ ((y % k : Nat) : Int) := by omega
            have hw : IntKind.i64.wrap ((k2 : Int) + 1) = ((k2 + 1 : Nat) : Int) := by rw [IntKind.wrap_i64]; omega
            have HXR := Lib.hid (hrg _ x hx)
            have HIM := Lib.hid (hs_infoEM x)
            have HIN := Lib.hid (insert_any A2 n2 c2 L x wr hr2 hp2 hnc2 hasc (by omega))
            have HMX := Lib.hid (List.mem_of_getElem? hx)
            have HB := Lib.hid hb2
            have hr2l := hr2.1
            clear hx hrg hr2 hb2 hbw hcy hyo
            go_wp2_with (refine wpList_load_mid rfl 26 (.tmp 57) rfl b (o + (y % k) * 33) rfl (Mk.c x) _ HXR.out Try.underlying26 rfl HIM.out ?_)
            refine HIN.out.mono ?_
            rintro e W6 ⟨v3, rfl, ho3, hb3⟩
            obtain ⟨A3, c3, rfl, hr3, hp3, hnc3⟩ := own_pln ho3
            have hil := ins_len L x
            have hLl : L.length = n2 := by have := hr2l; exact this
            have HR3 := Lib.hid hr3
            have HB3 := Lib.hid (HB.out.trans (hb3.mono HB.out.size))
            clear hr3 hb3 ho3
            generalize (ins L x).length = n3 at *
            go_wp2_with fail
            go_roundw
            case rel =>
              refine ⟨k2 + 1, A3, n3, c3, ins L x, by omega, by go_num, rfl, HR3.out, ins_asc hasc x, fun z hz => ?_, hp3, hnc3, by omega, HB3.out⟩
              rcases (ins_mem L x z).1 hz with h | h
              · exact hsub z h
              · rw [h]; exact HMX.out
            case measure => simp [intOf] <;> omega
          · obtain rfl : k = 0 := by omega
            obtain ⟨W7, hW7⟩ : ∃ W7, W7 = wr := ⟨_, rfl⟩
            subst hW7
            have HBX := Lib.hid (HB1.out.trans (hb2.mono HB1.out.size))
            have HR5b := Lib.hid (HR5.out.keep hb2)
            have HR2 := Lib.hid hr2
            have hw1 : wrap64 ((((0 : Nat) : Int) : Int) - 1) = (((0 : Nat) : Int) : Int) - 1 := by unfold wrap64; omega
            clear hr2 hb2
            go_wp2_with fail
            go_loopw [6, 9] (fun v j wr => ∃ (k3 : Nat) (A3 : Option Addr) (n3 c3 : Nat) (L3 : List Mk) (z : Int), k3 ≤ 0 ∧ j = .int .i64 z ∧ z = (k3 : Int) - 1 ∧ v = .slice A3 n3 c3 ∧ RdHM wr A3 n3 L3 ∧ Asc L3 ∧ (∀ x ∈ L3, x ∈ D) ∧ (∀ x ∈ D.drop k3, x ∈ L3) ∧ Pln A3 ∧ n3 ≤ c3 ∧ n3 + k3 ≤ 200 ∧ Below W7.heap.size W7 wr) (fun _ j _ => (intOf j + 1).toNat)
            case atStart => exact ⟨0, A2, n2, c2, L, _, by omega, rfl, by omega, rfl, HR2.out, hasc, hsub, (fun x hx => by rw [List.drop_eq_nil_of_le (by omega)] at hx; cases hx), hp2, hnc2, by omega, Below.refl _ _⟩
            case round =>
              obtain ⟨k3, A3, n3, c3, L3, z, hk3, rfl, hz, rfl, hr3, hasc3, hsub3, hsup3, hp3, hnc3, hle3, hb3⟩ := hrel
              by_cases h0 : 0 < k3
              · exact absurd hk3 (by omega)
              · obtain rfl : k3 = 0 := by omega
                have hz1 : z = -1 := by omega
                subst hz1
                clear hz
                have he : So D = L3 := perm_So hasc3 hsub3 (fun x hx => hsup3 x hx)
                have HS1 := Lib.hid (rsame_any A' A3 n' n3 c' c3 (So D) L3 wr (HR5b.out.keep hb3) hr3 (by omega))
                rw [decide_eq_true he] at HS1
                have HRD := Lib.hid (HR.out.keep (HBX.out.trans (hb3.mono HBX.out.size)))
                have HBY := Lib.hid (HBX.out.trans (hb3.mono HBX.out.size))
                have HR5c := Lib.hid (HR5b.out.keep hb3)
                clear hr3 hb3 he
                go_wp2_with fail
                refine HS1.out.mono ?_
                rintro e W8 ⟨rfl, hb8⟩
                have HB8 := Lib.hid (HBY.out.trans (hb8.mono HBY.out.size))
                have HSO := Lib.hid (sort_So A 0 c D W8 (HRD.out.keep hb8) (by omega))
                have HR5d := Lib.hid (HR5c.out.keep hb8)
                clear hb8
                go_wp2_with fail
                refine HSO.out.mono ?_
                rintro e W9 ⟨v9, rfl, ho9, hb9⟩
                obtain ⟨A9, c9, rfl, hr9⟩ := RdHM.own ho9
                have HS2 := Lib.hid (rsame_any A' A9 n' _ c' c9 (So D) (So D) W9 (HR5d.out.keep hb9) hr9 (by omega))
                rw [decide_eq_true rfl] at HS2
                have HB9 := Lib.hid (HB8.out.trans (hb9.mono HB8.out.size))
                clear ho9 hb9 hr9
                generalize (So D).length = n9 at *
                go_wp2_with fail
                refine HS2.out.mono ?_
                rintro e W10 ⟨rfl, hb10⟩
                have HB10 := Lib.hid (HB9.out.trans (hb10.mono HB9.out.size))
                clear hb10
                go_wp2_with fail
                refine (HA.out _).mono ?_
                rintro e W11 ⟨rfl, hb11⟩
                have HB11 := Lib.hid (HB10.out.trans (hb11.mono HB10.out.size))
                clear hb11
                go_wp2_with fail
                go_ret
                exact ⟨rfl, HB11.out⟩
        · have hni2 : ¬ (k2 : Int) < (nb : Int) := by omega
          obtain ⟨W7, hW7⟩ : ∃ W7, W7 = wr := ⟨_, rfl⟩
          subst hW7
          have HBX := Lib.hid (HB1.out.trans (hb2.mono HB1.out.size))
          have HR5b := Lib.hid (HR5.out.keep hb2)
          have HR2 := Lib.hid hr2
          have hw1 : wrap64 ((k : Int) - 1) = (k : Int) - 1 := by unfold wrap64; omega
          clear hr2 hb2
          go_wp2_with fail
          go_loopw [6, 9] (fun v j wr => ∃ (k3 : Nat) (A3 : Option Addr) (n3 c3 : Nat) (L3 : List Mk) (z : Int), k3 ≤ k ∧ j = .int .i64 z ∧ z = (k3 : Int) - 1 ∧ v = .slice A3 n3 c3 ∧ RdHM wr A3 n3 L3 ∧ Asc L3 ∧ (∀ x ∈ L3, x ∈ D) ∧ (∀ x ∈ D.drop k3, x ∈ L3) ∧ Pln A3 ∧ n3 ≤ c3 ∧ n3 + k3 ≤ 200 ∧ Below W7.heap.size W7 wr) (fun _ j _ => (intOf j + 1).toNat)
          case atStart => exact ⟨k, A2, n2, c2, L, _, by omega, rfl, by omega, rfl, HR2.out, hasc, hsub, (fun x hx => by rw [List.drop_eq_nil_of_le (by omega)] at hx; cases hx), hp2, hnc2, by omega, Below.refl _ _⟩
          case round =>
            obtain ⟨k3, A3, n3, c3, L3, z, hk3, rfl, hz, rfl, hr3, hasc3, hsub3, hsup3, hp3, hnc3, hle3, hb3⟩ := hrel
            by_cases h0 : 0 < k3
            · obtain ⟨k4, rfl⟩ : ∃ k4, k3 = k4 + 1 := ⟨k3 - 1, by omega⟩
              have hz4 : z = (k4 : Int) := by omega
              subst hz4
              clear hz
              have hx : D[k4]? = some (D[k4]'(by omega)) := List.getElem?_eq_getElem _
              generalize (D[k4]'(by omega)) = x at hx
              have hbw := HBX.out.trans (hb3.mono HBX.out.size)
              obtain ⟨b, o, rfl, hbl, hrg⟩ := rdh_atM (HR.out.keep hbw) (by omega)
              have hki : (k4 : Int) < (k : Int) := by omega
              have hki0 : (0 : Int) ≤ (k4 : Int) := by omega
              have hw4 : wrap64 ((k4 : Int) - 1) = (k4 : Int) - 1 := by unfold wrap64; omega
              have HXR := Lib.hid (hrg k4 x hx)
              have HIM := Lib.hid (hs_infoEM x)
              have HIN := Lib.hid (insert_any A3 n3 c3 L3 x wr hr3 hp3 hnc3 hasc3 (by omega))
              have HMX := Lib.hid (List.mem_of_getElem? hx)
              have HDR := Lib.hid (show D.drop k4 = x :: D.drop (k4 + 1) from by rw [List.drop_eq_getElem_cons (by omega)]; congr 1; exact (List.getElem?_eq_some_iff.1 hx).2)
              have HB := Lib.hid hb3
              have hr3l := hr3.1
              clear hx hrg hr3 hb3 hbw
              go_wp2_with (refine wpList_load_mid rfl 26 (.tmp 74) rfl b (o + k4 * 33) rfl (Mk.c x) _ HXR.out Try.underlying26 rfl HIM.out ?_)
              refine HIN.out.mono ?_
              rintro e W6 ⟨v4, rfl, ho4, hb4⟩
              obtain ⟨A4, c4, rfl, hr4, hp4, hnc4⟩ := own_pln ho4
              have hil := ins_len L3 x
              have HR4 := Lib.hid hr4
              have HB4 := Lib.hid (HB.out.trans (hb4.mono HB.out.size))
              clear hr4 hb4 ho4
              generalize (ins L3 x).length = n4 at *
              go_wp2_with fail
              go_roundw
              case rel =>
                refine ⟨k4, A4, n4, c4, ins L3 x, _, by omega, rfl, by first | rfl | omega | (go_num), rfl, HR4.out, ins_asc hasc3 x, fun z hz => ?_, fun z hz => ?_, hp4, hnc4, by omega, HB4.out⟩
                · rcases (ins_mem L3 x z).1 hz with h | h
                  · exact hsub3 z h
                  · rw [h]; exact HMX.out
                · rw [HDR.out] at hz
                  rcases List.mem_cons.1 hz with h | h
                  · exact (ins_mem L3 x z).2 (Or.inr h)
                  · exact (ins_mem L3 x z).2 (Or.inl (hsup3 z h))
              case measure => simp [intOf] <;> omega
            · obtain rfl : k3 = 0 := by omega
              have hz1 : z = -1 := by omega
              subst hz1
              clear hz
              have he : So D = L3 := perm_So hasc3 hsub3 (fun x hx => hsup3 x hx)
              have HS1 := Lib.hid (rsame_any A' A3 n' n3 c' c3 (So D) L3 wr (HR5b.out.keep hb3) hr3 (by omega))
              rw [decide_eq_true he] at HS1
              have HRD := Lib.hid (HR.out.keep (HBX.out.trans (hb3.mono HBX.out.size)))
              have HBY := Lib.hid (HBX.out.trans (hb3.mono HBX.out.size))
              have HR5c := Lib.hid (HR5b.out.keep hb3)
              clear hr3 hb3 he
              go_wp2_with fail
              refine HS1.out.mono ?_
              rintro e W8 ⟨rfl, hb8⟩
              have HB8 := Lib.hid (HBY.out.trans (hb8.mono HBY.out.size))
              have HSO := Lib.hid (sort_So A k c D W8 (HRD.out.keep hb8) (by omega))
              have HR5d := Lib.hid (HR5c.out.keep hb8)
              clear hb8
              go_wp2_with fail
              refine HSO.out.mono ?_
              rintro e W9 ⟨v9, rfl, ho9, hb9⟩
              obtain ⟨A9, c9, rfl, hr9⟩ := RdHM.own ho9
              have HS2 := Lib.hid (rsame_any A' A9 n' _ c' c9 (So D) (So D) W9 (HR5d.out.keep hb9) hr9 (by omega))
              rw [decide_eq_true rfl] at HS2
              have HB9 := Lib.hid (HB8.out.trans (hb9.mono HB8.out.size))
              clear ho9 hb9 hr9
              generalize (So D).length = n9 at *
              go_wp2_with fail
              refine HS2.out.mono ?_
              rintro e W10 ⟨rfl, hb10⟩
              have HB10 := Lib.hid (HB9.out.trans (hb10.mono HB9.out.size))
              clear hb10
              go_wp2_with fail
              refine (HA.out _).mono ?_
              rintro e W11 ⟨rfl, hb11⟩
              have HB11 := Lib.hid (HB10.out.trans (hb11.mono HB10.out.size))
              clear hb11
              go_wp2_with fail
              go_ret
              exact ⟨rfl, HB11.out⟩

end Go.Proofs.Ytocgeemjdlnabaa
