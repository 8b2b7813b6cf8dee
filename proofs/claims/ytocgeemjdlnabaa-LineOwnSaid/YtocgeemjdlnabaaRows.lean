/-
  No cell of these rows narrows 'for every input' (looked for: loops, veiled, ifaces, maps, wideKeys, modest, calm, conditions, laid).
  DERIVED. THE GIVEN ROWS OF THIS SEAT. 5 by the template 'for every input the law returns true; each argument reads behind the call as it read before'; 0 by the template 'total and deterministic' (their statements: YtocgeemjdlnabaaTotals.lean).
  GIVEN WITH THE SEED: the statements are not yours to turn. If you find one false, say at which input.
  Laid BY PROGRAM, IN A SANDBOX (cutbox-rows.mjs): the forced cells as the released guide's own fill.sh prints them over the translation 029cf2dbd26b5d02… (all of the seat's roots in one cut). By AI agents, Wed Nov 11 2026. No macro, syntax, notation, axiom, sorry.
-/
import Derived.Test.YtocgeemjdlnabaaChecked
import GoSem.Claim
import GoSem.ClaimJoined
import GoSem.ClaimMapViews
import Derived.JoinedTies
import Derived.KernelRfl
namespace Go.Proofs.Ytocgeemjdlnabaa
/- THE CELL 'sum', in the pinned program and in every row, IS THE sha256 OF THE DUMP (.gsa) THAT YtocgeemjdlnabaaProg.lean LOADS. Nothing in Lean hashes anything: it is a label: what it is worth is what the hold of that sum in a sandbox is worth. -/
noncomputable def Try.pinned : Pinned := { name := "ytocgeemjdlnabaa", sum := "029cf2dbd26b5d02ed0fd74bd46068cf03744d7b168317f8ea0c416546827112", checked := Try.checked }
namespace Rows
def none {H : Type} : Left H := { results := [], args := [] }

/-- 'dioptrelaw18.LineSorts': WHATEVER THE INPUT: true; the input reads as it did. -/
def lineSortsSpec : ChangeSpec := { name := "lineSorts", fn := fun _ => fun
  | [d1, d2, d3] => { results := [.lit (.bool true)], args := [d1, d2, d3] }
  | _ => none }
def lineSortsRow : OpenClaim := { program := "ytocgeemjdlnabaa", sum := "029cf2dbd26b5d02ed0fd74bd46068cf03744d7b168317f8ea0c416546827112", func := "dioptre/dioptrelaw18.LineSorts", spec := "lineSorts", inPlace := ["internal/bytealg.Compare"], unfollowed := true, recurses := true, apart := false }
def LineSortsSaid : Prop := lineSortsRow.holds Try.pinned (OpenSpec.ofChange lineSortsSpec)

/-- ITS FALSE NEIGHBOUR: 'it returns false'. Refute it at one input. -/
def lineSortsWrong : ChangeSpec := { name := "lineSorts", fn := fun _ => fun
  | [d1, d2, d3] => { results := [.lit (.bool false)], args := [d1, d2, d3] }
  | _ => none }
def LineSortsWrongFalsely : Prop := lineSortsRow.holds Try.pinned (OpenSpec.ofChange lineSortsWrong)

/-- 'dioptrelaw18.LineInserts': WHATEVER THE INPUT: true; the input reads as it did. -/
def lineInsertsSpec : ChangeSpec := { name := "lineInserts", fn := fun _ => fun
  | [d1, d2] => { results := [.lit (.bool true)], args := [d1, d2] }
  | _ => none }
def lineInsertsRow : OpenClaim := { program := "ytocgeemjdlnabaa", sum := "029cf2dbd26b5d02ed0fd74bd46068cf03744d7b168317f8ea0c416546827112", func := "dioptre/dioptrelaw18.LineInserts", spec := "lineInserts", inPlace := ["internal/bytealg.Compare"], unfollowed := true, recurses := true, apart := false }
def LineInsertsSaid : Prop := lineInsertsRow.holds Try.pinned (OpenSpec.ofChange lineInsertsSpec)

/-- ITS FALSE NEIGHBOUR: 'it returns false'. Refute it at one input. -/
def lineInsertsWrong : ChangeSpec := { name := "lineInserts", fn := fun _ => fun
  | [d1, d2] => { results := [.lit (.bool false)], args := [d1, d2] }
  | _ => none }
def LineInsertsWrongFalsely : Prop := lineInsertsRow.holds Try.pinned (OpenSpec.ofChange lineInsertsWrong)

/-- 'dioptrelaw18.LineMerges': WHATEVER THE INPUT: true; the input reads as it did. -/
def lineMergesSpec : ChangeSpec := { name := "lineMerges", fn := fun _ => fun
  | [d1, d2] => { results := [.lit (.bool true)], args := [d1, d2] }
  | _ => none }
def lineMergesRow : OpenClaim := { program := "ytocgeemjdlnabaa", sum := "029cf2dbd26b5d02ed0fd74bd46068cf03744d7b168317f8ea0c416546827112", func := "dioptre/dioptrelaw18.LineMerges", spec := "lineMerges", inPlace := ["internal/bytealg.Compare"], unfollowed := true, recurses := true, apart := false }
def LineMergesSaid : Prop := lineMergesRow.holds Try.pinned (OpenSpec.ofChange lineMergesSpec)

/-- ITS FALSE NEIGHBOUR: 'it returns false'. Refute it at one input. -/
def lineMergesWrong : ChangeSpec := { name := "lineMerges", fn := fun _ => fun
  | [d1, d2] => { results := [.lit (.bool false)], args := [d1, d2] }
  | _ => none }
def LineMergesWrongFalsely : Prop := lineMergesRow.holds Try.pinned (OpenSpec.ofChange lineMergesWrong)

/-- 'dioptrelaw18.LineOrder': WHATEVER THE INPUT: true; the input reads as it did. -/
def lineOrderSpec : ChangeSpec := { name := "lineOrder", fn := fun _ => fun
  | [d1, d2] => { results := [.lit (.bool true)], args := [d1, d2] }
  | _ => none }
def lineOrderRow : OpenClaim := { program := "ytocgeemjdlnabaa", sum := "029cf2dbd26b5d02ed0fd74bd46068cf03744d7b168317f8ea0c416546827112", func := "dioptre/dioptrelaw18.LineOrder", spec := "lineOrder", inPlace := ["internal/bytealg.Compare"], unfollowed := true, recurses := true, apart := false }
def LineOrderSaid : Prop := lineOrderRow.holds Try.pinned (OpenSpec.ofChange lineOrderSpec)

/-- ITS FALSE NEIGHBOUR: 'it returns false'. Refute it at one input. -/
def lineOrderWrong : ChangeSpec := { name := "lineOrder", fn := fun _ => fun
  | [d1, d2] => { results := [.lit (.bool false)], args := [d1, d2] }
  | _ => none }
def LineOrderWrongFalsely : Prop := lineOrderRow.holds Try.pinned (OpenSpec.ofChange lineOrderWrong)

/-- 'dioptrelaw18.LineOwn': WHATEVER THE INPUT: true; the input reads as it did. -/
def lineOwnSpec : ChangeSpec := { name := "lineOwn", fn := fun _ => fun
  | [d1, d2] => { results := [.lit (.bool true)], args := [d1, d2] }
  | _ => none }
def lineOwnRow : OpenClaim := { program := "ytocgeemjdlnabaa", sum := "029cf2dbd26b5d02ed0fd74bd46068cf03744d7b168317f8ea0c416546827112", func := "dioptre/dioptrelaw18.LineOwn", spec := "lineOwn", inPlace := ["internal/bytealg.Compare"], unfollowed := true, recurses := true, apart := false }
def LineOwnSaid : Prop := lineOwnRow.holds Try.pinned (OpenSpec.ofChange lineOwnSpec)

/-- ITS FALSE NEIGHBOUR: 'it returns false'. Refute it at one input. -/
def lineOwnWrong : ChangeSpec := { name := "lineOwn", fn := fun _ => fun
  | [d1, d2] => { results := [.lit (.bool false)], args := [d1, d2] }
  | _ => none }
def LineOwnWrongFalsely : Prop := lineOwnRow.holds Try.pinned (OpenSpec.ofChange lineOwnWrong)

/- THE SECOND FORM. 'bulk': how many values and letters a reading holds, each counted each time it is reached (what is shared counts as often as it is met; a slice's spare places count too). A statement '..UptoSaid' is the law's where the arguments, and the package variables that the reading takes, are together of bulk at most 1048576: NARROWER than '..Said'. Prove '..Said' where nothing that the law and all that it calls make is longer than what came in: it says more and counts as full. Else prove '..UptoSaid'. A law counts once. -/
mutual
def uptoBulk {H : Type} : DataW H → Nat
  | .lit (.string bytes) => bytes.length + 1
  | .lit _ => 1
  | .nil => 1
  | .ptr d => uptoBulk d + 1
  | .slice elems spare => uptoBulkAll elems + uptoBulkAll spare + 1
  | .agg parts => uptoBulkAll parts + 1
  | .iface _ d => uptoBulk d + 1
  | .map entries => uptoBulkEntries entries + 1
  | .held _ => 1
def uptoBulkAll {H : Type} : List (DataW H) → Nat
  | [] => 0
  | d :: r => uptoBulk d + uptoBulkAll r
def uptoBulkEntries {H : Type} : List (Lit × DataW H) → Nat
  | [] => 0
  | x :: r => uptoBulkEntry x + uptoBulkEntries r
def uptoBulkEntry {H : Type} : Lit × DataW H → Nat
  | (.string bytes, d) => bytes.length + uptoBulk d + 1
  | (_, d) => uptoBulk d + 1
 end
def uptoSmall : (H : Type) → List (DataW H) → Bool := fun _ ds => decide (uptoBulkAll ds ≤ 1048576)
def OpenSpec.upto (s : _root_.Go.ChangeSpec) : _root_.Go.OpenSpec := { _root_.Go.OpenSpec.ofChange s with cond := some uptoSmall }

/-- 'dioptrelaw18.LineSorts', WHERE WHAT IT READS IS OF BULK AT MOST 1048576: true; the input reads as it did. -/
def lineSortsUptoRow : OpenClaim := { program := "ytocgeemjdlnabaa", sum := "029cf2dbd26b5d02ed0fd74bd46068cf03744d7b168317f8ea0c416546827112", func := "dioptre/dioptrelaw18.LineSorts", spec := "lineSorts", inPlace := ["internal/bytealg.Compare"], unfollowed := true, recurses := true, apart := false, narrowed := true }
def LineSortsUptoSaid : Prop := lineSortsUptoRow.holds Try.pinned (OpenSpec.upto lineSortsSpec)

/-- 'dioptrelaw18.LineInserts', WHERE WHAT IT READS IS OF BULK AT MOST 1048576: true; the input reads as it did. -/
def lineInsertsUptoRow : OpenClaim := { program := "ytocgeemjdlnabaa", sum := "029cf2dbd26b5d02ed0fd74bd46068cf03744d7b168317f8ea0c416546827112", func := "dioptre/dioptrelaw18.LineInserts", spec := "lineInserts", inPlace := ["internal/bytealg.Compare"], unfollowed := true, recurses := true, apart := false, narrowed := true }
def LineInsertsUptoSaid : Prop := lineInsertsUptoRow.holds Try.pinned (OpenSpec.upto lineInsertsSpec)

/-- 'dioptrelaw18.LineMerges', WHERE WHAT IT READS IS OF BULK AT MOST 1048576: true; the input reads as it did. -/
def lineMergesUptoRow : OpenClaim := { program := "ytocgeemjdlnabaa", sum := "029cf2dbd26b5d02ed0fd74bd46068cf03744d7b168317f8ea0c416546827112", func := "dioptre/dioptrelaw18.LineMerges", spec := "lineMerges", inPlace := ["internal/bytealg.Compare"], unfollowed := true, recurses := true, apart := false, narrowed := true }
def LineMergesUptoSaid : Prop := lineMergesUptoRow.holds Try.pinned (OpenSpec.upto lineMergesSpec)

/-- 'dioptrelaw18.LineOrder', WHERE WHAT IT READS IS OF BULK AT MOST 1048576: true; the input reads as it did. -/
def lineOrderUptoRow : OpenClaim := { program := "ytocgeemjdlnabaa", sum := "029cf2dbd26b5d02ed0fd74bd46068cf03744d7b168317f8ea0c416546827112", func := "dioptre/dioptrelaw18.LineOrder", spec := "lineOrder", inPlace := ["internal/bytealg.Compare"], unfollowed := true, recurses := true, apart := false, narrowed := true }
def LineOrderUptoSaid : Prop := lineOrderUptoRow.holds Try.pinned (OpenSpec.upto lineOrderSpec)

/-- 'dioptrelaw18.LineOwn', WHERE WHAT IT READS IS OF BULK AT MOST 1048576: true; the input reads as it did. -/
def lineOwnUptoRow : OpenClaim := { program := "ytocgeemjdlnabaa", sum := "029cf2dbd26b5d02ed0fd74bd46068cf03744d7b168317f8ea0c416546827112", func := "dioptre/dioptrelaw18.LineOwn", spec := "lineOwn", inPlace := ["internal/bytealg.Compare"], unfollowed := true, recurses := true, apart := false, narrowed := true }
def LineOwnUptoSaid : Prop := lineOwnUptoRow.holds Try.pinned (OpenSpec.upto lineOwnSpec)

end Rows
end Go.Proofs.Ytocgeemjdlnabaa
