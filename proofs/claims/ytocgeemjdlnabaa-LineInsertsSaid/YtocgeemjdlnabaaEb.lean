/- entry.compare, bytes.Compare. -/
import Derived.Test.YtocgeemjdlnabaaEa
import Derived.Test.YtocgeemjdlnabaaRowz
import Derived.Test.YtocgeemjdlnabaaRows
import Derived.Lib.BytesEntry
import Derived.Sort.Grow
import Derived.Deep.RegionHeld3
namespace Go.Proofs.Ytocgeemjdlnabaa
set_option maxRecDepth 100000
set_option linter.unusedSimpArgs false
set_option linter.unusedVariables false
open Go.RowKit

theorem below_newE (w : World) (o : Obj) : Below w.heap.size w (w.alloc o) := (Below.refl _ _).alloc (Nat.le_refl _) _
theorem row_new1E (w : World) (o : Obj) (l : List Value) (T : TypeId) : Row ((w.alloc o).alloc (.cells l.toArray T)) (w.heap.size + 1) T l := by
  have h := Row.new (w.alloc o) l T
  have e : (w.alloc o).heap.size = w.heap.size + 1 := by simp
  rwa [e] at h
def ints (l : List UInt8) : List Int := l.map fun c => (c.toNat : Int)
theorem bytes_ints (l : List UInt8) : Lib.bytesOf (ints l) = l := by
  unfold Lib.bytesOf ints
  rw [List.map_map]
  conv => rhs; rw [← List.map_id l]
  refine List.map_congr_left fun c _ => ?_
  simp
theorem load_hs {P : Program} {W : World} {g : Nat} {T : TypeId} (a : Hs) (h : Row W g T a.c) : (Extern.Bytes.loadBytes ⟨g, 0, none⟩ 32 .empty).run P W = .ok ⟨a.1.toArray⟩ W := by
  have h1 := Lib.run_loadBytesX (P := P) W (ints a.1) ⟨g, 0, none⟩ .empty (fun j x hj => by
    have e : (⟨g, 0, none⟩ : Addr).add j = ⟨g, j, none⟩ := by unfold Addr.add; split <;> simp_all
    rw [e]
    refine h.cell ?_
    unfold Hs.c
    rw [Bs_get]
    unfold ints at hj
    rw [List.getElem?_map] at hj
    cases hc : a.1[j]? with
    | none => rw [hc] at hj; cases hj
    | some c => rw [hc] at hj; cases hj; rfl)
  have hl : (ints a.1).length = 32 := by unfold ints; rw [List.length_map, a.2]
  rw [hl, bytes_ints] at h1
  rw [h1]
  congr 1
  apply ByteArray.ext
  show (#[] : Array UInt8) ++ a.1.toArray = a.1.toArray
  simp
theorem run_cmp {P : Program} {W : World} {g h : Nat} {T T' : TypeId} (a b : Hs) (ha : Row W g T a.c) (hb : Row W h T' b.c) : (Extern.BytealgCompare.compare #[.slice (some ⟨g, 0, none⟩) 32 32, .slice (some ⟨h, 0, none⟩) 32 32]).run P W = .ok (.int .i64 (Hs.cf a b)) W := by
  change Sem.run P (do pure (goInt (Extern.BytealgCompare.cmp (← Extern.Bytes.loadBytes ⟨g, 0, none⟩ 32 .empty) (← Extern.Bytes.loadBytes ⟨h, 0, none⟩ 32 .empty)))) W = _
  simp only [Sem.run_bind, Sem.run_pure, load_hs a ha, load_hs b hb, Result.andThen]
  rw [Lib.cmp_eq]
  show Result.ok (Value.int .i64 (Lib.compareBytes a.1.toArray.toList b.1.toArray.toList)) W = _
  rw [List.toList_toArray, List.toList_toArray, cmp_num (a.2.trans b.2.symm)]
  rfl
theorem bcmp_any (a b : Hs) (g h : Nat) (T T' : TypeId) (W : World) (ha : Row W g T a.c) (hb : Row W h T' b.c) :
    Calls Try.prog 34 #[.slice (some ⟨g, 0, none⟩) 32 32, .slice (some ⟨h, 0, none⟩) 32 32] W fun e w' => e = .returned (.int .i64 (Hs.cf a b)) ∧ w' = W := by
  have hr := run_cmp (P := Try.prog) a b ha hb
  generalize Hs.cf a b = r at *
  have HR := Lib.hid hr
  clear hr ha hb
  go_enter Try.func34, Try.ntmps34
  go_wp2
  rw [run_callFunc_extern Try.func47 (by kernel_rfl) (by kernel_rfl) (by kernel_rfl) (e := Extern.BytealgCompare.compare) (by kernel_rfl), HR.out]
  simp only [Result.andThen]
  rw [Oper.upon_value]
  go_wp2
  go_ret
  exact ⟨rfl, rfl⟩
theorem grow2 (W : World) (o o' : Obj) : ((W.alloc o).alloc o').drew = Sort.grow (W.drewN 1) #[o, o'] := by
  rw [Sort.alloc_eq_grow, Sort.alloc_eq_grow, Sort.grow_grow]
  rfl
end Go.Proofs.Ytocgeemjdlnabaa
