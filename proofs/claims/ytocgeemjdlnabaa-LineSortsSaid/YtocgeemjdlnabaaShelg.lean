/-
  DERIVED: THE SHELF's CONTRACTS AT THIS DUMP, IN PLAIN WORDS (tools/lay-plain.mjs out of 'YtocgeemjdlnabaaShelgS.lean', which tools/lay-shelf.mjs wrote): THE SAME DECLARATIONS UNDER THE SAME NAMES: 'import', 'namespace', 'open', 'def', 'theorem' AND NOTHING ELSE: no command of the shelf's: FOR A HAND-IN. Each laying: the table of numbers ('.._ren') and one theorem, a field a fact of the dump's own or the kernel's comparison; each contract: ONE APPLICATION.
-/
import Derived.Test.YtocgeemjdlnabaaProg
import Derived.Ground.SlsoProg
import Derived.Shelf.SlSorted.Search
import Derived.Shelf.SlGeneric
namespace Go.Proofs
open Go.Shelf
def Ytocgeemjdlnabaa.srchH_ren : Go.Shelf.Ren := ⟨fun | 16 => 28 | n => n, fun | 3 => 3 | 35 => 50 | 4 => 4 | 38 => 53 | n => n, fun | n => n⟩
theorem Ytocgeemjdlnabaa.srchH : Go.Proofs.SlLaysO.n16 Try.prog Ytocgeemjdlnabaa.srchH_ren := {
  mixed := by kernel_rfl
  f16 := Try.func28.trans (congrArg some (by kernel_rfl))
  t3 := Try.underlying3
  a3 := Try.isAgg3
  z3 := Try.sizeOf3
  v3 := Try.zeroValue3
  t4 := Try.underlying4
  a4 := Try.isAgg4
  z4 := Try.sizeOf4
  v4 := Try.zeroValue4
  t35 := Try.underlying50
  a35 := Try.isAgg50
  z35 := Try.sizeOf50
  v35 := Try.zeroValue50
  t38 := Try.underlying53
  a38 := Try.isAgg53
  z38 := Try.sizeOf53
  v38 := Try.zeroValue53 }
end Go.Proofs
