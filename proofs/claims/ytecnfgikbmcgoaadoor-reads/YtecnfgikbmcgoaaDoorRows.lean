/-
  NARROWER THAN 'FOR EVERY INPUT', by the rows' own cells (each row's printed sentence says how): Bytes: laid · Reads: laid · Back: laid.
  DERIVED. THE GIVEN ROWS OF THIS SEAT. 3 by the template 'for every input the law returns true; each argument reads behind the call as it read before'; 0 by the template 'total and deterministic' (their statements: YtecnfgikbmcgoaaDoorTotals.lean).
  GIVEN WITH THE SEED: the statements are not yours to turn. If you find one false, say at which input.
  Laid BY PROGRAM, IN A SANDBOX (cutbox-rows.mjs): the forced cells as the released guide's own fill.sh prints them over the translation db4f301126e54dda… (all of the seat's roots in one cut). By AI agents, Wed Nov 11 2026. No macro, syntax, notation, axiom, sorry.
-/
import Derived.Test.YtecnfgikbmcgoaaDoorChecked
import GoSem.Claim
import GoSem.ClaimJoined
import GoSem.ClaimMapViews
import Derived.JoinedTies
import Derived.KernelRfl
namespace Go.Proofs.YtecnfgikbmcgoaaDoor
/- THE CELL 'sum', in the pinned program and in every row, IS THE sha256 OF THE DUMP (.gsa) THAT YtecnfgikbmcgoaaDoorProg.lean LOADS. Nothing in Lean hashes anything: it is a label: what it is worth is what the hold of that sum in a sandbox is worth. -/
noncomputable def Tryd.pinned : Pinned := { name := "ytecnfgikbmcgoaadoor", sum := "db4f301126e54ddad10742351bf0ff346336111dc72c49f73b209142f28a7185", checked := Tryd.checked }
namespace Rows
def none {H : Type} : Left H := { results := [], args := [] }

/- WHAT THE LISTED PACKAGE-LEVEL VARIABLES READ AS WHEN THE CALL BEGINS. Each datum BY PROGRAM (the guide's laid-datum.mjs) off the statement by which the dump's own 'gosem.cut.vars' lays the variable. In a bare row this is a premise. The card (YtecnfgikbmcgoaaDoorCards.lean) ties it to the program's text. -/
def laid_herald_wire_errTooFew {H : Type} : DataW H := .iface "*errors.errorString" (.ptr (.agg [.lit (.string [116, 104, 101, 32, 98, 121, 116, 101, 115, 32, 101, 110, 100, 32, 116, 111, 111, 32, 101, 97, 114, 108, 121])]))

/-- 'heraldlaw.Bytes': WHATEVER THE INPUT: true; the input reads as it did. -/
def bytesSpec : ChangeSpec := { name := "bytes", fn := fun _ => fun
  | [d1, d2] => { results := [.lit (.bool true)], args := [d1, d2] }
  | _ => none }
def bytesRow : OpenClaim := { program := "ytecnfgikbmcgoaadoor", sum := "db4f301126e54ddad10742351bf0ff346336111dc72c49f73b209142f28a7185", func := "herald/heraldlaw.Bytes", spec := "bytes", unfollowed := true, recurses := true, named := ["herald/wire.errTooFew"], apart := false, laid := [("herald/wire.errTooFew", laid_herald_wire_errTooFew)] }
def BytesSaid : Prop := bytesRow.holds Tryd.pinned (OpenSpec.ofChange bytesSpec)

/-- ITS FALSE NEIGHBOUR: 'it returns false'. Refute it at one input. -/
def bytesWrong : ChangeSpec := { name := "bytes", fn := fun _ => fun
  | [d1, d2] => { results := [.lit (.bool false)], args := [d1, d2] }
  | _ => none }
def BytesWrongFalsely : Prop := bytesRow.holds Tryd.pinned (OpenSpec.ofChange bytesWrong)

/-- 'heraldlaw.Reads': WHATEVER THE INPUT: true; the input reads as it did. -/
def readsSpec : ChangeSpec := { name := "reads", fn := fun _ => fun
  | [d] => { results := [.lit (.bool true)], args := [d] }
  | _ => none }
def readsRow : OpenClaim := { program := "ytecnfgikbmcgoaadoor", sum := "db4f301126e54ddad10742351bf0ff346336111dc72c49f73b209142f28a7185", func := "herald/heraldlaw.Reads", spec := "reads", unfollowed := true, recurses := true, named := ["herald/wire.errTooFew"], apart := false, laid := [("herald/wire.errTooFew", laid_herald_wire_errTooFew)] }
def ReadsSaid : Prop := readsRow.holds Tryd.pinned (OpenSpec.ofChange readsSpec)

/-- ITS FALSE NEIGHBOUR: 'it returns false'. Refute it at one input. -/
def readsWrong : ChangeSpec := { name := "reads", fn := fun _ => fun
  | [d] => { results := [.lit (.bool false)], args := [d] }
  | _ => none }
def ReadsWrongFalsely : Prop := readsRow.holds Tryd.pinned (OpenSpec.ofChange readsWrong)

/-- 'heraldkeep.Back': WHATEVER THE INPUT: true; the input reads as it did. -/
def backSpec : ChangeSpec := { name := "back", fn := fun _ => fun
  | [d1, d2, d3] => { results := [.lit (.bool true)], args := [d1, d2, d3] }
  | _ => none }
def backRow : OpenClaim := { program := "ytecnfgikbmcgoaadoor", sum := "db4f301126e54ddad10742351bf0ff346336111dc72c49f73b209142f28a7185", func := "herald/heraldkeep.Back", spec := "back", unfollowed := true, recurses := true, named := ["herald/wire.errTooFew"], apart := false, laid := [("herald/wire.errTooFew", laid_herald_wire_errTooFew)] }
def BackSaid : Prop := backRow.holds Tryd.pinned (OpenSpec.ofChange backSpec)

/-- ITS FALSE NEIGHBOUR: 'it returns false'. Refute it at one input. -/
def backWrong : ChangeSpec := { name := "back", fn := fun _ => fun
  | [d1, d2, d3] => { results := [.lit (.bool false)], args := [d1, d2, d3] }
  | _ => none }
def BackWrongFalsely : Prop := backRow.holds Tryd.pinned (OpenSpec.ofChange backWrong)

/- THE SECOND FORM. 'bulk': how many values and letters a reading holds, each counted each time it is reached (what is shared counts as often as it is met; a slice's spare places count too). A statement '..UptoSaid' is the law's where the arguments, and the package variables that the reading takes, are together of bulk at most 1048576: NARROWER than '..Said'. Prove '..Said' where nothing that the law and all that it calls make is longer than what came in: it says more and counts as full. Else prove '..UptoSaid'. A law counts once. -/
mutual
def uptoBulk {H : Type} : DataW H → Nat
  | .lit (.string bytes) => bytes.length + 1
  | .lit _ => 1
  | .nil => 1
  | .ptr d => uptoBulk d + 1
  | .slice elems spare => uptoBulkAll elems + uptoBulkAll spare + 1
  | .agg parts => uptoBulkAll parts + 1
  | .iface _ d => uptoBulk d + 1
  | .map entries => uptoBulkEntries entries + 1
  | .held _ => 1
def uptoBulkAll {H : Type} : List (DataW H) → Nat
  | [] => 0
  | d :: r => uptoBulk d + uptoBulkAll r
def uptoBulkEntries {H : Type} : List (Lit × DataW H) → Nat
  | [] => 0
  | x :: r => uptoBulkEntry x + uptoBulkEntries r
def uptoBulkEntry {H : Type} : Lit × DataW H → Nat
  | (.string bytes, d) => bytes.length + uptoBulk d + 1
  | (_, d) => uptoBulk d + 1
 end
def uptoSmall : (H : Type) → List (DataW H) → Bool := fun _ ds => decide (uptoBulkAll ds ≤ 1048576)
def OpenSpec.upto (s : _root_.Go.ChangeSpec) : _root_.Go.OpenSpec := { _root_.Go.OpenSpec.ofChange s with cond := some uptoSmall }

/-- 'heraldlaw.Bytes', WHERE WHAT IT READS IS OF BULK AT MOST 1048576: true; the input reads as it did. -/
def bytesUptoRow : OpenClaim := { program := "ytecnfgikbmcgoaadoor", sum := "db4f301126e54ddad10742351bf0ff346336111dc72c49f73b209142f28a7185", func := "herald/heraldlaw.Bytes", spec := "bytes", unfollowed := true, recurses := true, named := ["herald/wire.errTooFew"], apart := false, laid := [("herald/wire.errTooFew", laid_herald_wire_errTooFew)], narrowed := true }
def BytesUptoSaid : Prop := bytesUptoRow.holds Tryd.pinned (OpenSpec.upto bytesSpec)

/-- 'heraldlaw.Reads', WHERE WHAT IT READS IS OF BULK AT MOST 1048576: true; the input reads as it did. -/
def readsUptoRow : OpenClaim := { program := "ytecnfgikbmcgoaadoor", sum := "db4f301126e54ddad10742351bf0ff346336111dc72c49f73b209142f28a7185", func := "herald/heraldlaw.Reads", spec := "reads", unfollowed := true, recurses := true, named := ["herald/wire.errTooFew"], apart := false, laid := [("herald/wire.errTooFew", laid_herald_wire_errTooFew)], narrowed := true }
def ReadsUptoSaid : Prop := readsUptoRow.holds Tryd.pinned (OpenSpec.upto readsSpec)

/-- 'heraldkeep.Back', WHERE WHAT IT READS IS OF BULK AT MOST 1048576: true; the input reads as it did. -/
def backUptoRow : OpenClaim := { program := "ytecnfgikbmcgoaadoor", sum := "db4f301126e54ddad10742351bf0ff346336111dc72c49f73b209142f28a7185", func := "herald/heraldkeep.Back", spec := "back", unfollowed := true, recurses := true, named := ["herald/wire.errTooFew"], apart := false, laid := [("herald/wire.errTooFew", laid_herald_wire_errTooFew)], narrowed := true }
def BackUptoSaid : Prop := backUptoRow.holds Tryd.pinned (OpenSpec.upto backSpec)

end Rows
end Go.Proofs.YtecnfgikbmcgoaaDoor
