/- A full block goes into the sum: whatever the block. -/
import Derived.Test.YtcdfbcpcgkcojaaDoorRnd64
import Derived.BigQuiet
import Derived.Deep.CutRange
import Derived.Deep.CutBlock
import Derived.Test.YtcdfbcpcgkcojaaDoorBase
namespace Go.Proofs.YtcdfbcpcgkcojaaDoor
set_option maxRecDepth 100000
open Go.RowKit

/-- The constants of the rounds. -/
def k64 : List Nat := [4794697086780616226, 8158064640168781261, 13096744586834688815, 16840607885511220156, 4131703408338449720, 6480981068601479193, 10538285296894168987, 12329834152419229976, 15566598209576043074, 1334009975649890238, 2608012711638119052, 6128411473006802146, 8268148722764581231, 9286055187155687089, 11230858885718282805, 13951009754708518548, 16472876342353939154, 17275323862435702243, 1135362057144423861, 2597628984639134821, 3308224258029322869, 5365058923640841347, 6679025012923562964, 8573033837759648693, 10970295158949994411, 12119686244451234320, 12683024718118986047, 13788192230050041572, 14330467153632333762, 15395433587784984357, 489312712824947311, 1452737877330783856, 2861767655752347644, 3322285676063803686, 5560940570517711597, 5996557281743188959, 7280758554555802590, 8532644243296465576, 9350256976987008742, 10552545826968843579, 11727347734174303076, 12113106623233404929, 14000437183269869457, 14369950271660146224, 15101387698204529176, 15463397548674623760, 17586052441742319658, 1182934255886127544, 1847814050463011016, 2177327727835720531, 2830643537854262169, 3796741975233480872, 4115178125766777443, 5681478168544905931, 6601373596472566643, 7507060721942968483, 8399075790359081724, 8693463985226723168, 9568029438360202098, 10144078919501101548, 10430055236837252648, 11840083180663258601, 13761210420658862357, 14299343276471374635, 14566680578165727644, 15097957966210449927, 16922976911328602910, 17689382322260857208, 500013540394364858, 748580250866718886, 1242879168328830382, 1977374033974150939, 2944078676154940804, 3659926193048069267, 4368137639120453308, 4836135668995329356, 5532061633213252278, 6448918945643986474, 6902733635092675308, 7801388544844847127]
theorem k64_len : k64.length = 80 := by decide +kernel
/-- The constants lie in their variable. -/
def Ks64 (w : World) : Prop := ∃ c t, w.heap[2]? = some (.cells c t (0, 0)) ∧ ∀ k, k < 80 → c[k]? = some (Value.int .u64 ((k64.getD k 0 : Nat) : Int))
theorem Ks64.cell {w : World} (h : Ks64 w) {k : Nat} (hk : k < 80) : w.cell? ⟨2, k, none⟩ = some (.int .u64 ((k64.getD k 0 : Nat) : Int)) := by
  obtain ⟨c, t, h1, h2⟩ := h
  rw [cell_of_row w 2 k _ _ _ h1]
  exact h2 k hk
theorem k64_lt : ∀ x ∈ k64, x < 18446744073709551616 := by decide +kernel
theorem k64_get (k : Nat) : k64.getD k 0 < 18446744073709551616 := by
  rw [List.getD]
  cases h : k64[k]? with
  | none => decide
  | some v => exact k64_lt v (List.mem_of_getElem? h)

/-- A state of a sum: its words, its block, how many bytes came. -/
def Tb64 (w : World) (g : Nat) (T : TypeId) (l b : List Nat) (n : Int) : Prop := w.heap[g]? = some (.cells (Us64 (l ++ b) ++ [Value.int .i64 n]).toArray T (0, 0))
theorem Tb64.cell {w : World} {g : Nat} {T : TypeId} {l b : List Nat} {n : Int} (h : Tb64 w g T l b n) {k : Nat} (hk : k < l.length) : w.cell? ⟨g, k, none⟩ = some (.int .u64 ((l.getD k 0 : Nat) : Int)) := by
  have h1 : k < (Us64 (l ++ b)).length := by rw [Us64_length]; simp; omega
  rw [cell_of_row w g k _ _ _ h, List.getElem?_toArray, List.getElem?_append_left h1, Us64_get, List.getElem?_append_left hk, List.getD, List.getElem?_eq_getElem hk]
  rfl
theorem Tb64.block {w : World} {g : Nat} {T : TypeId} {l b : List Nat} {n : Int} (h : Tb64 w g T l b n) : w.rangeAt g l.length (Us64 b) := by
  intro j v hv
  have hj : j < (Us64 b).length := (List.getElem?_eq_some_iff.1 hv).1
  rw [cell_of_row w g _ _ _ _ h, List.getElem?_toArray, Us64_append, List.append_assoc, List.getElem?_append_right (by rw [Us64_length]; omega), Us64_length, Nat.add_sub_cancel_left, List.getElem?_append_left hj]
  exact hv
theorem Tb64.below {w w' : World} {g B : Nat} {T : TypeId} {l b : List Nat} {n : Int} (h : Tb64 w g T l b n) (hb : Below B w w') (hg : g < B) : Tb64 w' g T l b n := (hb.block g hg).trans h
theorem Ks64.below {w w' : World} {B : Nat} (h : Ks64 w) (hb : Below B w w') (hg : 2 < B) : Ks64 w' := by
  obtain ⟨c, t, h1, h2⟩ := h
  exact ⟨c, t, (hb.block 2 hg).trans h1, h2⟩
theorem Ks64.lt {w : World} (h : Ks64 w) : 2 < w.heap.size := by
  obtain ⟨c, t, h1, _⟩ := h
  exact (Array.getElem?_eq_some_iff.1 h1).1
theorem Ks64.keep {w w' : World} (h : Ks64 w) (e : w'.heap[2]? = w.heap[2]?) : Ks64 w' := by
  obtain ⟨c, t, h1, h2⟩ := h
  exact ⟨c, t, e.trans h1, h2⟩
theorem Tb64.lt {w : World} {g : Nat} {T : TypeId} {l b : List Nat} {n : Int} (h : Tb64 w g T l b n) : g < w.heap.size := (Array.getElem?_eq_some_iff.1 h).1
theorem topK64 (k : Nat) (w : World) : Calls Tryd.prog 36 #[.int .u64 ((k64.getD k 0 : Nat) : Int)] w fun e w' => e = .returned (.int .u64 ((k64.getD k 0 / 2 ^ (64 - 64) : Nat) : Int)) ∧ w' = w := top64 _ w (k64_get k)

/-- The words of a block; the state behind so many rounds. -/
def ws64 (b : List Nat) : List Nat := exp64 64 b ++ List.replicate 0 0
theorem ws64_length {b : List Nat} (hb : b.length = 16) : (ws64 b).length = 80 := by simp [ws64, exp64_length, hb]
def gone64 (s : S8x64) (b : List Nat) (k : Nat) : S8x64 := rns64 (fun i => k64.getD i 0 / 2 ^ (64 - 64)) (fun i => (ws64 b).getD i 0) k s
theorem gone64_succ (s : S8x64) (b : List Nat) (k : Nat) : gone64 s b (k + 1) = rnd64 (gone64 s b k) (k64.getD k 0 / 2 ^ (64 - 64)) ((ws64 b).getD k 0) := rfl

theorem strw64 (b : List Nat) (hb : b.length = 16) (hm : ∀ x ∈ b, x < 18446744073709551616) (w : World) : Calls Tryd.prog 56 #[.agg (Us64 b).toArray] w fun e w' => e = .returned (.agg (Us64 (ws64 b)).toArray) ∧ Below w.heap.size w w' := stretch64 b hb hm w

theorem mx64s (l : List Nat) : (Us64 l).all (·.oneCell') = true := List.all_eq_true.2 (Us64_one l)

/-- The words, as far as the new ones are added. -/
def par64 (l m : List Nat) (k : Nat) : List Nat := (l.zipWith (fun x y => (x + y) % 18446744073709551616) m).take k ++ l.drop k
theorem par64_len (x1 x2 x3 x4 x5 x6 x7 x8 y1 y2 y3 y4 y5 y6 y7 y8 k : Nat) (h : k ≤ 8) : (par64 [x1, x2, x3, x4, x5, x6, x7, x8] [y1, y2, y3, y4, y5, y6, y7, y8] k).length = 8 := by simp [par64]; omega
theorem par64_at (x1 x2 x3 x4 x5 x6 x7 x8 y1 y2 y3 y4 y5 y6 y7 y8 k : Nat) (h : k < 8) : (par64 [x1, x2, x3, x4, x5, x6, x7, x8] [y1, y2, y3, y4, y5, y6, y7, y8] k).getD k 0 = [x1, x2, x3, x4, x5, x6, x7, x8].getD k 0 :=
  match k, h with
  | 0, _ => rfl
  | 1, _ => rfl
  | 2, _ => rfl
  | 3, _ => rfl
  | 4, _ => rfl
  | 5, _ => rfl
  | 6, _ => rfl
  | 7, _ => rfl
  | _ + 8, h => by omega
theorem par64_set (x1 x2 x3 x4 x5 x6 x7 x8 y1 y2 y3 y4 y5 y6 y7 y8 k : Nat) (h : k < 8) : (par64 [x1, x2, x3, x4, x5, x6, x7, x8] [y1, y2, y3, y4, y5, y6, y7, y8] k).set k (([x1, x2, x3, x4, x5, x6, x7, x8].getD k 0 + [y1, y2, y3, y4, y5, y6, y7, y8].getD k 0) % 18446744073709551616) = par64 [x1, x2, x3, x4, x5, x6, x7, x8] [y1, y2, y3, y4, y5, y6, y7, y8] (k + 1) :=
  match k, h with
  | 0, _ => rfl
  | 1, _ => rfl
  | 2, _ => rfl
  | 3, _ => rfl
  | 4, _ => rfl
  | 5, _ => rfl
  | 6, _ => rfl
  | 7, _ => rfl
  | _ + 8, h => by omega
theorem Tb64.free {w : World} {g : Nat} {T : TypeId} {l b : List Nat} {n : Int} (h : Tb64 w g T l b n) (k : Nat) : w.frozen? ⟨g, k, none⟩ = false := frozen_of_row w g k _ _ h
theorem Tb64.set {w : World} {g : Nat} {T : TypeId} {l b : List Nat} {n : Int} (h : Tb64 w g T l b n) {k : Nat} (hk : k < l.length) (x : Nat) : Tb64 (w.setCell ⟨g, k, none⟩ (.int .u64 ((x : Nat) : Int))) g T (l.set k x) b n := by
  unfold Tb64 at h ⊢
  rw [heap_setCell_same w g _ _ _ _ h]
  congr 2
  have h1 : k < (Us64 l).length := by rw [Us64_length]; exact hk
  rw [List.setIfInBounds_toArray, Us64_append, Us64_append, List.append_assoc, List.set_append_left _ _ h1, List.append_assoc]
  simp [Us64, List.map_set]

theorem idx64 (x1 x2 x3 x4 x5 x6 x7 x8 k : Nat) (h : k < 8) (w : World) : (Instr.index 55 (.agg #[.int .u64 ((x1 : Nat) : Int), .int .u64 ((x2 : Nat) : Int), .int .u64 ((x3 : Nat) : Int), .int .u64 ((x4 : Nat) : Int), .int .u64 ((x5 : Nat) : Int), .int .u64 ((x6 : Nat) : Int), .int .u64 ((x7 : Nat) : Int), .int .u64 ((x8 : Nat) : Int)]) (.int .i64 ((k : Nat) : Int))).run Tryd.prog w = .ok (.int .u64 (([x1, x2, x3, x4, x5, x6, x7, x8].getD k 0 : Nat) : Int)) w :=
  match k, h with
  | 0, _ => by kernel_rfl
  | 1, _ => by kernel_rfl
  | 2, _ => by kernel_rfl
  | 3, _ => by kernel_rfl
  | 4, _ => by kernel_rfl
  | 5, _ => by kernel_rfl
  | 6, _ => by kernel_rfl
  | 7, _ => by kernel_rfl
  | _ + 8, h => by omega

/-- The state behind a block. -/
def mxd64 (s : S8x64) (b : List Nat) : List Nat := par64 s.list (gone64 s b 80).list 8

set_option maxHeartbeats 1600000 in
theorem mix64 (s : S8x64) (b : List Nat) (n : Int) (T : TypeId) (g : Nat) (w : World) (ho : s.ok) (hb : b.length = 16) (hm : ∀ x ∈ b, x < 18446744073709551616) (hk : Ks64 w) (ht : Tb64 w g T s.list b n) :
    Calls Tryd.prog 41 #[.pointer (some ⟨g, 0, none⟩)] w fun e w' => e = .returned (.tuple #[]) ∧ Tb64 w' g T (mxd64 s b) b n ∧ Only (· = g) w w' := by
  have HO := Lib.hid ho
  have HB := Lib.hid hb
  have HM := Lib.hid hm
  have HK := Lib.hid hk
  have HT := Lib.hid ht
  have hbl : w.rangeAt g 8 (Us64 b) := ht.block
  have HBL := Lib.hid hbl
  have hi : (Tryd.prog.info? 56).map (·.size) = some (Us64 b).length := by rw [Us64_length, hb]; kernel_rfl
  have HI := Lib.hid hi
  clear ho hb hm hk ht hbl hi
  go_enter Tryd.func41, Tryd.ntmps41
  go_upto_region 0 with fail
  go_cut [2] from 16 to 20 (fun v wx => ∃ p, v = .pointer (some ⟨p, 0, none⟩) ∧ w.heap.size ≤ p ∧ wx.heap[p]? = some (.cells (Us64 (ws64 b)).toArray 97 (0, 0)) ∧ Below w.heap.size w wx)
  case first =>
    go_wp2_with (refine wpList_load_mid rfl 56 (.tmp 18) rfl g 8 rfl (Us64 b) _ HBL.out rfl rfl HI.out ?_)
    refine (strw64 b HB.out HM.out _).mono ?_
    rintro e w1 ⟨rfl, hb1⟩
    have HB1 := Lib.hid hb1
    clear hb1
    have hlen80 : (Us64 (ws64 b)).toArray.size = 80 := by rw [List.size_toArray, Us64_length, ws64_length HB.out]
    have hsz : (Tryd.prog.info? 97).map (·.size) = some (Us64 (ws64 b)).toArray.size := by rw [hlen80]; kernel_rfl
    have hres : (w1.alloc (.cells Tryd.zeroCells97 97)).heap[w1.heap.size]? = some (.cells Tryd.zeroCells97 97 (0, 0)) := heap_alloc_new _ _
    have hold : (Tryd.zeroCells97).size = (Us64 (ws64 b)).toArray.size := by rw [hlen80]; kernel_rfl
    have hone := all_oneCell_toArray (Us64_one (ws64 b))
    have HSZ := Lib.hid hsz
    have HRES := Lib.hid hres
    have HOLD := Lib.hid hold
    have HONE := Lib.hid hone
    clear hlen80 hsz hres hold hone
    go_wp2_with (refine wpList_store_row rfl 97 (.tmp 2) (.tmp 20) rfl w1.heap.size _ rfl rfl 97 _ HRES.out HSZ.out HOLD.out HONE.out ?_)
    go_meet
    exact ⟨w1.heap.size, rfl, HB1.out.size, setRow_heap _ _ _ _ _ _ HRES.out, below_setRow (HB1.out.alloc HB1.out.size _) HB1.out.size _⟩
  case rest =>
    obtain ⟨p, rfl, hp, hrow, hbe⟩ := hcut
    have ht : Tb64 wc g T s.list b n := HT.out.below hbe HT.out.lt
    have hk : Ks64 wc := HK.out.below hbe HK.out.lt
    have c0 := ht.cell (k := 0) (by show 0 < 8; decide)
    have c1 := ht.cell (k := 1) (by show 1 < 8; decide)
    have c2 := ht.cell (k := 2) (by show 2 < 8; decide)
    have c3 := ht.cell (k := 3) (by show 3 < 8; decide)
    have c4 := ht.cell (k := 4) (by show 4 < 8; decide)
    have c5 := ht.cell (k := 5) (by show 5 < 8; decide)
    have c6 := ht.cell (k := 6) (by show 6 < 8; decide)
    have c7 := ht.cell (k := 7) (by show 7 < 8; decide)
    have e0 : s.list.getD 0 0 = s.a := rfl
    have e1 : s.list.getD 1 0 = s.b := rfl
    have e2 : s.list.getD 2 0 = s.c := rfl
    have e3 : s.list.getD 3 0 = s.d := rfl
    have e4 : s.list.getD 4 0 = s.e := rfl
    have e5 : s.list.getD 5 0 = s.f := rfl
    have e6 : s.list.getD 6 0 = s.g := rfl
    have e7 : s.list.getD 7 0 = s.h := rfl
    rw [e0] at c0
    rw [e1] at c1
    rw [e2] at c2
    rw [e3] at c3
    rw [e4] at c4
    rw [e5] at c5
    rw [e6] at c6
    rw [e7] at c7
    have HT1 := Lib.hid ht
    have HK1 := Lib.hid hk
    have HP := Lib.hid hp
    have HROW := Lib.hid hrow
    have HBE := Lib.hid hbe
    clear ht hk hp hrow hbe e0 e1 e2 e3 e4 e5 e6 e7
    go_upto_region 1 with fail
    go_quiet (fail)
    have C0 := Lib.hid c0
    clear c0 c1 c2 c3 c4 c5 c6 c7
    go_wp2_with fail
    refine (rounds64 _).mono ?_
    rintro e w3 ⟨rfl, rfl⟩
    go_wp2_with fail
    go_loopw [3, 4, 5, 6, 7, 8, 9, 10, 62] (fun a1 a2 a3 a4 a5 a6 a7 a8 i wr => ∃ k : Nat, k ≤ 80 ∧ i = .int .i64 k ∧ a1 = .int .u64 ((gone64 s b k).a : Nat) ∧ a2 = .int .u64 ((gone64 s b k).b : Nat) ∧ a3 = .int .u64 ((gone64 s b k).c : Nat) ∧ a4 = .int .u64 ((gone64 s b k).d : Nat) ∧ a5 = .int .u64 ((gone64 s b k).e : Nat) ∧ a6 = .int .u64 ((gone64 s b k).f : Nat) ∧ a7 = .int .u64 ((gone64 s b k).g : Nat) ∧ a8 = .int .u64 ((gone64 s b k).h : Nat) ∧ ∃ q, wr = wc.drewN q) (fun _ _ _ _ _ _ _ _ i _ => 80 - (intOf i).toNat)
    case atStart => exact ⟨0, by decide, rfl, rfl, rfl, rfl, rfl, rfl, rfl, rfl, rfl, _, rfl⟩
    case round =>
      obtain ⟨k, hk, rfl, rfl, rfl, rfl, rfl, rfl, rfl, rfl, rfl, q, rfl⟩ := hrel
      by_cases hlt : k < 80
      · have hS1 := gone64_succ s b k
        have hok : (gone64 s b k).ok := rns64_ok HO.out _ _ k
        have ck : (wc.drewN q).cell? ⟨2, k, none⟩ = some (.int .u64 ((k64.getD k 0 : Nat) : Int)) := HK1.out.cell (by omega)
        have cw : (wc.drewN q).cell? ⟨p, k, none⟩ = some (.int .u64 (((ws64 b).getD k 0 : Nat) : Int)) := by
          have h1 : k < (ws64 b).length := by rw [ws64_length HB.out]; omega
          rw [cell_of_row (wc.drewN q) p k _ _ _ HROW.out, List.getElem?_toArray, Us64_get, List.getD, List.getElem?_eq_getElem h1]
          rfl
        have hy := k64_get k
        generalize hW : wc.drewN q = W at *
        generalize gone64 s b k = S at *
        generalize (ws64 b).getD k 0 = X at *
        generalize k64.getD k 0 = Y at *
        have htop : ∀ w', Calls Tryd.prog 36 #[.int .u64 (Y : Int)] w' fun e w'' => e = .returned (.int .u64 ((Y / 2 ^ (64 - 64) : Nat) : Int)) ∧ w'' = w' := fun w' => top64 Y w' hy
        generalize Y / 2 ^ (64 - 64) = Z at *
        obtain ⟨S1, S2, S3, S4, S5, S6, S7, S8⟩ := S
        obtain ⟨h1, h2, h3, h4, h5, h6, h7, h8⟩ := hok
        dsimp only at h1 h2 h3 h4 h5 h6 h7 h8 ⊢
        have hS2 : gone64 s b (k + 1) = ⟨(t64 S5 S6 S7 S8 Z X + ma64 S1 S2 S3) % 18446744073709551616, S1, S2, S3, (S4 + t64 S5 S6 S7 S8 Z X) % 18446744073709551616, S5, S6, S7⟩ := hS1
        have HS1 := Lib.hid hS2
        have HW := Lib.hid hW
        have HTOP := Lib.hid htop
        have bi : (k : Int) < 80 := by omega
        have b0 : (0 : Int) ≤ (k : Int) := by omega
        clear hS1 hS2 hW htop hy
        go_upto_region 5 with fail
        go_cut [12] from 63 to 113 (fun v wx => v = .int .u64 ((t64 S5 S6 S7 S8 Z X : Nat) : Int) ∧ ∃ q', wx = W.drewN q')
        case first =>
          go_quiet (first
            | (go_at_call 58; exact Calls.quiet_of (large164 _ _ h5))
            | (go_at_call 36; exact Calls.quiet_of_same (HTOP.out _)))
          have e1 : bits .xor .u64 (bits .and .u64 (S5 : Int) (S6 : Int)) (bits .and .u64 (bits .xor .u64 (if IntKind.u64.signed = true then -1 else IntKind.u64.max) (S5 : Int)) (S7 : Int)) = ((ch64 S5 S6 S7 : Nat) : Int) := chs64 h5 h6 h7
          go_step
          go_step
          go_meet
          refine ⟨?_, _, rfl⟩
          rw [e1]
          unfold t64
          generalize big3 64 S5 14 18 41 = z1
          generalize ch64 S5 S6 S7 = z2
          congr 1
          first
            | omega
            | rw [ts64]
            | (simp only [add64]; omega)
        case rest =>
          obtain ⟨rfl, q5, rfl⟩ := hcut
          generalize t64 S5 S6 S7 S8 Z X = t at *
          have e2 : bits .xor .u64 (bits .xor .u64 (bits .and .u64 (S1 : Int) (S2 : Int)) (bits .and .u64 (S1 : Int) (S3 : Int))) (bits .and .u64 (S2 : Int) (S3 : Int)) = ((maj64 S1 S2 S3 : Nat) : Int) := majs64 h1 h2 h3
          have E2 := Lib.hid e2
          clear e2
          go_wp2_with fail
          refine (large064 S1 _ h1).mono ?_
          rintro e w6 ⟨rfl, q6, rfl⟩
          go_wp2_with fail
          go_roundw
          case rel =>
            refine ⟨k + 1, by omega, by go_num, ?_, ?_, ?_, ?_, ?_, ?_, ?_, ?_, q + (q5 + q6), ?_⟩
            · rw [HS1.out, E2.out]
              unfold ma64
              generalize big3 64 S1 28 34 39 = z1
              generalize maj64 S1 S2 S3 = z2
              congr 1 <;> first | omega | (simp only [add64]; done) | (simp only [add64]; omega)
            · rw [HS1.out]
            · rw [HS1.out]
            · rw [HS1.out]
            · rw [HS1.out]
              congr 1 <;> first | omega | (simp only [add64]; done) | (simp only [add64]; omega)
            · rw [HS1.out]
            · rw [HS1.out]
            · rw [HS1.out]
            · rw [← HW.out, World.drewN_drewN]
          case measure => simp [intOf]; omega
      · have hie : k = 80 := by omega
        subst hie
        have hrow2 : Tb64 (wc.drewN q) g T s.list b n := HT1.out
        have hmx : par64 s.list (gone64 s b 80).list 8 = mxd64 s b := rfl
        generalize gone64 s b 80 = S at *
        obtain ⟨S1, S2, S3, S4, S5, S6, S7, S8⟩ := S
        obtain ⟨s1, s2, s3, s4, s5, s6, s7, s8⟩ := s
        dsimp only [S8x64.list] at hrow2 hmx ⊢
        have HROW2 := Lib.hid hrow2
        have HMX := Lib.hid hmx
        clear hrow2 hmx
        go_upto_region 9 with fail
        go_wp2_with fail
        go_loopw [123] (fun i wr => ∃ k : Nat, k ≤ 8 ∧ i = .int .i64 k ∧ Tb64 wr g T (par64 [s1, s2, s3, s4, s5, s6, s7, s8] [S1, S2, S3, S4, S5, S6, S7, S8] k) b n ∧ Only (· = g) w wr) (fun i _ => 8 - (intOf i).toNat)
        case atStart => exact ⟨0, by decide, rfl, HROW2.out, (Only.of_below HBE.out _).drewN q⟩
        case round =>
          obtain ⟨k, hk, rfl, hat, hon⟩ := hrel
          have HAT := Lib.hid hat
          have HON := Lib.hid hon
          clear hat hon
          by_cases hlt : k < 8
          · go_upto_region 11 with fail
            go_cut [14, 15] from 124 to 138 (fun u v wx => u = .int .i64 k ∧ v = .int .u64 (([S1, S2, S3, S4, S5, S6, S7, S8].getD k 0 : Nat) : Int) ∧ Tb64 wx g T (par64 [s1, s2, s3, s4, s5, s6, s7, s8] [S1, S2, S3, S4, S5, S6, S7, S8] k) b n ∧ Only (· = g) w wx)
            case first =>
              have hix := idx64 S1 S2 S3 S4 S5 S6 S7 S8 k hlt
              go_wp2_with fail
              go_meet
              refine ⟨rfl, ?_, HAT.out, HON.out⟩
              first
                | rfl
                | (rw [List.getD, List.getElem?_eq_getElem hlt]; rfl)
            case rest =>
              obtain ⟨rfl, rfl, hat2, hon2⟩ := hcut
              have kc := hat2.cell (k := k) (by rw [par64_len _ _ _ _ _ _ _ _ _ _ _ _ _ _ _ _ k hk]; exact hlt)
              rw [par64_at _ _ _ _ _ _ _ _ _ _ _ _ _ _ _ _ k hlt] at kc
              have kf := hat2.free k
              have nx := par64_set s1 s2 s3 s4 s5 s6 s7 s8 S1 S2 S3 S4 S5 S6 S7 S8 k hlt
              have st := hat2.set (k := k) (by rw [par64_len _ _ _ _ _ _ _ _ _ _ _ _ _ _ _ _ k hk]; exact hlt)
              generalize [s1, s2, s3, s4, s5, s6, s7, s8].getD k 0 = x at *
              generalize [S1, S2, S3, S4, S5, S6, S7, S8].getD k 0 = y at *
              have NX := Lib.hid nx
              have ST := Lib.hid st
              have HON2 := Lib.hid hon2
              have bi : (k : Int) < 8 := by omega
              have b0 : (0 : Int) ≤ (k : Int) := by omega
              clear nx st hat2 hon2
              go_upto_region 12 with fail
              go_region
              go_wp2_with fail
              go_roundw
              case rel =>
                have hst := ST.out ((x + y) % 18446744073709551616)
                rw [NX.out] at hst
                have e : ((x : Int) + y) % 18446744073709551616 = (((x + y) % 18446744073709551616 : Nat) : Int) := by omega
                refine ⟨k + 1, by omega, by go_num, ?_, ?_⟩
                · first
                    | rw [e]
                    | rw [add64]
                  exact hst
                · exact (HON2.out.setCell (.inl rfl) _).drew
              case measure => simp [intOf]; omega
          · have hie : k = 8 := by omega
            subst hie
            go_wp2_with fail
            go_end0
            exact ⟨rfl, by rw [← HMX.out]; exact HAT.out, HON.out⟩

end Go.Proofs.YtcdfbcpcgkcojaaDoor
