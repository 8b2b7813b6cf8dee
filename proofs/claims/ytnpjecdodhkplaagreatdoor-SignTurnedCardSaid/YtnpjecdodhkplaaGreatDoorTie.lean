/-
  DERIVED. GIVEN WITH THE SEED: THE PROGRAM's TIES (one call each: nine closed facts by the kernel) AND EACH ROW's TIE, after the 31st guide's Derived/Test/Toyas{Tie, Card}.lean. No idea stands in it: it is a product of the set-up. Laid BY PROGRAM, IN A SANDBOX (cutbox-door.mjs). By AI agents, Wed Nov 11 2026. No macro, syntax, notation, axiom, sorry.
-/
import Derived.Test.YtnpjecdodhkplaaGreatDoorRows
import Derived.LaidByTextLater
import Derived.SevenTiedAt
import Derived.LaidSub
import Derived.LaidOnce
namespace Go.Proofs.YtnpjecdodhkplaaGreatDoor
open Go
set_option maxRecDepth 100000
theorem seatTie1 : Tryz.prog.laidByTextLater [("dioptre/field.enough", Rows.laid_dioptre_field_enough), ("dioptre/field.rootOfMinus", Rows.laid_dioptre_field_rootOfMinus), ("dioptre/curve.d", Rows.laid_dioptre_curve_d), ("dioptre/curve.baseX", Rows.laid_dioptre_curve_baseX), ("dioptre/curve.baseY", Rows.laid_dioptre_curve_baseY), ("dioptre/order.q", Rows.laid_dioptre_order_q), ("dioptre/digest.rounds", Rows.laid_dioptre_digest_rounds), ("dioptre/digest.starts", Rows.laid_dioptre_digest_starts)] [.data, .data, .data, .data, .data, .wider, .data, .data] true :=
  Program.laidByTextLater_by_one 49 8 81 (by kernel_rfl) (by kernel_rfl) (by kernel_rfl) (by kernel_rfl) (by kernel_rfl) (by kernel_rfl) (fun _ _ => by kernel_rfl)
theorem noOwnUnsafe : Tryz.pinned.checked.prog.headLifts.contains "ownunsafe" = false := by kernel_rfl
theorem tie : Tryz.prog.laidByTextLater [("dioptre/field.enough", Rows.laid_dioptre_field_enough), ("dioptre/field.rootOfMinus", Rows.laid_dioptre_field_rootOfMinus), ("dioptre/curve.d", Rows.laid_dioptre_curve_d), ("dioptre/curve.baseX", Rows.laid_dioptre_curve_baseX), ("dioptre/curve.baseY", Rows.laid_dioptre_curve_baseY), ("dioptre/order.q", Rows.laid_dioptre_order_q), ("dioptre/digest.rounds", Rows.laid_dioptre_digest_rounds), ("dioptre/digest.starts", Rows.laid_dioptre_digest_starts)] [.data, .data, .data, .data, .data, .wider, .data, .data] true :=
  Program.laidByTextLater.sub seatTie1 ["dioptre/field.enough", "dioptre/field.rootOfMinus", "dioptre/curve.d", "dioptre/curve.baseX", "dioptre/curve.baseY", "dioptre/order.q", "dioptre/digest.rounds", "dioptre/digest.starts"] (by kernel_rfl) (by kernel_rfl)
theorem signSigns_row_tie : Rows.signSignsRow.laidByTextAt .later Tryz.pinned [.data, .data, .data, .data, .data, .wider, .data, .data] true :=
  OpenClaim.laidByTextAt_later rfl rfl tie noOwnUnsafe
theorem signVerifies_row_tie : Rows.signVerifiesRow.laidByTextAt .later Tryz.pinned [.data, .data, .data, .data, .data, .wider, .data, .data] true :=
  OpenClaim.laidByTextAt_later rfl rfl tie noOwnUnsafe
theorem signTurned_row_tie : Rows.signTurnedRow.laidByTextAt .later Tryz.pinned [.data, .data, .data, .data, .data, .wider, .data, .data] true :=
  OpenClaim.laidByTextAt_later rfl rfl tie noOwnUnsafe
theorem signSignsUpto_row_tie : Rows.signSignsUptoRow.laidByTextAt .later Tryz.pinned [.data, .data, .data, .data, .data, .wider, .data, .data] true :=
  OpenClaim.laidByTextAt_later rfl rfl tie noOwnUnsafe
theorem signVerifiesUpto_row_tie : Rows.signVerifiesUptoRow.laidByTextAt .later Tryz.pinned [.data, .data, .data, .data, .data, .wider, .data, .data] true :=
  OpenClaim.laidByTextAt_later rfl rfl tie noOwnUnsafe
theorem signTurnedUpto_row_tie : Rows.signTurnedUptoRow.laidByTextAt .later Tryz.pinned [.data, .data, .data, .data, .data, .wider, .data, .data] true :=
  OpenClaim.laidByTextAt_later rfl rfl tie noOwnUnsafe
end Go.Proofs.YtnpjecdodhkplaaGreatDoor
