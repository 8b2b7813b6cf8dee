/- A stream takes bytes; how many came. -/
import Derived.Test.YtcdfbcpcgkcojaaDoorStart32
namespace Go.Proofs.YtcdfbcpcgkcojaaDoor
set_option maxRecDepth 100000
open Go.RowKit

theorem writeNil (a : Option Addr) (n cap : Nat) (w : World) : Calls Tryd.prog 14 #[.pointer none, .slice a n cap] w fun e w' => e = .returned (.tuple #[]) ∧ w' = w := by
  go_enter Tryd.func14, Tryd.ntmps14
  go_wp2_with fail
  go_end0
  exact ⟨rfl, rfl⟩

theorem write32 (t : S8x32 × List Nat × Nat) (xs : List Nat) (a : Option Addr) (n cap : Nat) (T : TypeId) (g : Nat) (w : World) (hx : ∀ x ∈ xs, x < 256) (ht : Gd32 t) (hk : Ks32 w) (hs : Tb32 w g T t.1.list t.2.1 (t.2.2 : Int)) (hn : t.2.2 + xs.length < 4611686018427387904) (hg : g ≠ 2)
    (hr : Rd w (fun k => k ≠ g) a n (xs.map fun x => .int .u8 ((x : Nat) : Int))) :
    Calls Tryd.prog 14 #[.pointer (some ⟨g, 0, none⟩), .slice a n cap] w fun e w' => e = .returned (.tuple #[]) ∧ Tb32 w' g T (fed32 t xs).1.list (fed32 t xs).2.1 ((fed32 t xs).2.2 : Int) ∧ Only (· = g) w w' := by
  have H := Lib.hid (take32 t xs a n cap T g w hx ht hk hs hn hg hr)
  clear hx ht hk hs hn hg hr
  go_enter Tryd.func14, Tryd.ntmps14
  go_wp2_with fail
  refine H.out.mono ?_
  rintro e w1 ⟨rfl, h⟩
  go_wp2_with fail
  go_end0
  exact ⟨rfl, h⟩

theorem sizeNil (w : World) : Calls Tryd.prog 16 #[.pointer none] w fun e w' => e = .returned (.int .i64 0) ∧ w' = w := by
  go_enter Tryd.func16, Tryd.ntmps16
  go_wp2_with fail
  go_ret
  exact ⟨rfl, rfl⟩

theorem size32 (l b : List Nat) (n : Int) (T : TypeId) (g : Nat) (w : World) (hl : l.length = 8) (hb : b.length = 16) (hs : Tb32 w g T l b n) :
    Calls Tryd.prog 16 #[.pointer (some ⟨g, 0, none⟩)] w fun e w' => e = .returned (.int .i64 n) ∧ w' = w := by
  have c := hs.size hl hb
  clear hs hl hb
  go_enter Tryd.func16, Tryd.ntmps16
  go_wp2_with fail
  go_ret
  exact ⟨rfl, rfl⟩

end Go.Proofs.YtcdfbcpcgkcojaaDoor
