/-
  DERIVED. GIVEN WITH THE SEED: THE CARDS: each row of YtecnfgikbmcgoaaDoorRows.lean that lists a variable, with what it lists TIED to the program's text (the seventh form; the later family's looks); each row that meets fmt, with fmt's text TOLD by the authors' own Lean function (tested against real Go, not proved from fmt's source: count such statements apart). THE CARD IS WHAT COUNTS. Prove the row's statement (the work); the ties are given (YtecnfgikbmcgoaaDoorTie.lean); close each card by the builder's one call (the guide's Derived/Test/ToyasCard.lean, 'card_holds'). Laid BY PROGRAM, IN A SANDBOX (cutbox-door.mjs). By AI agents, Wed Nov 11 2026. No macro, syntax, notation, axiom, sorry.
-/
import Derived.Test.YtecnfgikbmcgoaaDoorRows
import GoSem.ClaimSeven
namespace Go.Proofs.YtecnfgikbmcgoaaDoor
namespace Rows

/-- THE TIED CARD OF 'heraldlaw.Bytes'. -/
def bytesCard : Claim7 := { stood := { row := bytesRow, standIns := [], harness := (true, "ffc19e82769d4b0bb91d2b82404708ee7d45288a75460485d817956031ea3657"), looks := false }, kinds := [], alts := [], laidByText := true, laidKinds := [.sentinel], laidTests := true, laidLooks := .later }
def BytesCardSaid : Prop := Claim7.holds Tryd.pinned (.plain (OpenSpec.ofChange bytesSpec)) bytesCard

/-- THE TIED CARD OF 'heraldlaw.Reads'. -/
def readsCard : Claim7 := { stood := { row := readsRow, standIns := [], harness := (true, "ffc19e82769d4b0bb91d2b82404708ee7d45288a75460485d817956031ea3657"), looks := false }, kinds := [], alts := [], laidByText := true, laidKinds := [.sentinel], laidTests := true, laidLooks := .later }
def ReadsCardSaid : Prop := Claim7.holds Tryd.pinned (.plain (OpenSpec.ofChange readsSpec)) readsCard

/-- THE TIED CARD OF 'heraldkeep.Back'. -/
def backCard : Claim7 := { stood := { row := backRow, standIns := [], harness := (true, "ffc19e82769d4b0bb91d2b82404708ee7d45288a75460485d817956031ea3657"), looks := false }, kinds := [], alts := [], laidByText := true, laidKinds := [.sentinel], laidTests := true, laidLooks := .later }
def BackCardSaid : Prop := Claim7.holds Tryd.pinned (.plain (OpenSpec.ofChange backSpec)) backCard

/-- THE SECOND FORM's CARD OF 'heraldlaw.Bytes'. -/
def bytesUptoCard : Claim7 := { stood := { row := bytesUptoRow, standIns := [], harness := (true, "ffc19e82769d4b0bb91d2b82404708ee7d45288a75460485d817956031ea3657"), looks := false }, kinds := [], alts := [], laidByText := true, laidKinds := [.sentinel], laidTests := true, laidLooks := .later }
def BytesUptoCardSaid : Prop := Claim7.holds Tryd.pinned (.plain (OpenSpec.upto bytesSpec)) bytesUptoCard

/-- THE SECOND FORM's CARD OF 'heraldlaw.Reads'. -/
def readsUptoCard : Claim7 := { stood := { row := readsUptoRow, standIns := [], harness := (true, "ffc19e82769d4b0bb91d2b82404708ee7d45288a75460485d817956031ea3657"), looks := false }, kinds := [], alts := [], laidByText := true, laidKinds := [.sentinel], laidTests := true, laidLooks := .later }
def ReadsUptoCardSaid : Prop := Claim7.holds Tryd.pinned (.plain (OpenSpec.upto readsSpec)) readsUptoCard

/-- THE SECOND FORM's CARD OF 'heraldkeep.Back'. -/
def backUptoCard : Claim7 := { stood := { row := backUptoRow, standIns := [], harness := (true, "ffc19e82769d4b0bb91d2b82404708ee7d45288a75460485d817956031ea3657"), looks := false }, kinds := [], alts := [], laidByText := true, laidKinds := [.sentinel], laidTests := true, laidLooks := .later }
def BackUptoCardSaid : Prop := Claim7.holds Tryd.pinned (.plain (OpenSpec.upto backSpec)) backUptoCard
end Rows
end Go.Proofs.YtecnfgikbmcgoaaDoor
